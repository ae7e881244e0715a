/- PACKAGE bst IN MEMORY: what never changes, by its type; a tree; a way; a call -/
import Derived.Test.YtmhiolhgofackaaBs
import Derived.Test.YtmhiolhgofackaaMapG
namespace Go.Proofs.Ytmhiolhgofackaa
open Go.RowKit
set_option linter.unusedVariables false
set_option linter.unusedSimpArgs false

abbrev pt (b : Nat) : Value := .pointer (some ⟨b, 0, none⟩)
/-- types of blocks that never change -/
def immT : List TypeId := [98, 121, 105, 96, 9, 57, 111, 58, 59, 110, 28, 107, 115]
def oneT : List TypeId := [39, 45]
def Imm (X : List Nat) (k : Nat) (o : Obj) : Prop := ∃ cur T, o = .cells cur T (0, 0) ∧ (T ∈ immT ∨ (T ∈ oneT ∧ cur.size = 1 ∧ k ∉ X))
/-- what never changes stays -/
structure Iv (X : List Nat) (w w' : World) : Prop where
  size : w.heap.size ≤ w'.heap.size
  keep : ∀ k o, w.heap[k]? = some o → Imm X k o → w'.heap[k]? = some o
theorem Iv.refl (X : List Nat) (w : World) : Iv X w w := ⟨Nat.le_refl _, fun _ _ h _ => h⟩
theorem Iv.trans {X : List Nat} {a b c : World} (h : Iv X a b) (k : Iv X b c) : Iv X a c := ⟨Nat.le_trans h.size k.size, fun i o hi ho => k.keep i o (h.keep i o hi ho) ho⟩
/-- blocks that may change -/
def Mut (X : List Nat) (w : World) (S : List Nat) : Prop := ∀ k ∈ S, ∀ o, w.heap[k]? = some o → ¬ Imm X k o
theorem Fr.iv {X S : List Nat} {w w' : World} (h : Fr S w w') (hm : Mut X w S) : Iv X w w' := ⟨h.size, fun k o hk ho => h.keep hk (fun hs => hm k hs o hk ho)⟩
theorem Fr.iv0 {X : List Nat} {w w' : World} (h : Fr [] w w') : Iv X w w' := h.iv (fun k hk => by simp at hk)
theorem Mut.app {X S T : List Nat} {w : World} (h : Mut X w S) (k : Mut X w T) : Mut X w (S ++ T) := fun i hi => (List.mem_append.1 hi).elim (h i) (k i)
theorem Mut.sub {X S T : List Nat} {w : World} (h : Mut X w S) (hs : ∀ x ∈ T, x ∈ S) : Mut X w T := fun i hi => h i (hs i hi)
/-- a variable that is captured -/
structure Va (X : List Nat) (w : World) (b : Nat) (T : TypeId) (v : Value) : Prop where
  blk : w.heap[b]? = some (.cells #[v] T (0, 0))
  out : b ∉ X
  ty : T ∈ immT ∨ T ∈ oneT
theorem Va.imm {X : List Nat} {w : World} {b : Nat} {T : TypeId} {v : Value} (h : Va X w b T v) : Imm X b (.cells #[v] T (0, 0)) := ⟨_, _, rfl, h.ty.elim Or.inl fun k => Or.inr ⟨k, rfl, h.out⟩⟩
theorem Va.keep {X : List Nat} {w w' : World} {b : Nat} {T : TypeId} {v : Value} (h : Va X w b T v) (hi : Iv X w w') : Va X w' b T v := ⟨hi.keep _ _ h.blk h.imm, h.out, h.ty⟩
theorem Va.cell {X : List Nat} {w : World} {b : Nat} {T : TypeId} {v : Value} (h : Va X w b T v) : w.cell? ⟨b, 0, none⟩ = some v := by simpa using cell_block h.blk 0
theorem Va.lt {X : List Nat} {w : World} {b : Nat} {T : TypeId} {v : Value} (h : Va X w b T v) : b < w.heap.size := lt_of_block h.blk
theorem Va.new (X : List Nat) (w : World) (T : TypeId) (v : Value) (ht : T ∈ immT ∨ T ∈ oneT) (hx : ∀ x ∈ X, x < w.heap.size) : Va X (w.alloc (.cells #[v] T (0, 0))) w.heap.size T v :=
  ⟨new_block w _, fun h => by have := hx _ h; omega, ht⟩
theorem imm_ty {X : List Nat} {k : Nat} {cur : Array Value} {T : TypeId} {f : Nat × Nat} (h1 : T ∉ immT) (h2 : T ∉ oneT) : ¬ Imm X k (.cells cur T f) := by
  rintro ⟨c, t, h, k⟩
  cases h
  exact k.elim h1 fun k => h2 k.1
theorem imm_many {X : List Nat} {k : Nat} {cur : Array Value} {T : TypeId} {f : Nat × Nat} (h1 : T ∉ immT) (h2 : cur.size ≠ 1) : ¬ Imm X k (.cells cur T f) := by
  rintro ⟨c, t, h, k⟩
  cases h
  exact k.elim h1 fun k => h2 k.2.1
theorem imm_over {X : List Nat} {k : Nat} {cur : Array Value} {T : TypeId} {f : Nat × Nat} (h1 : T ∉ immT) (h2 : k ∈ X) : ¬ Imm X k (.cells cur T f) := by
  rintro ⟨c, t, h, k⟩
  cases h
  exact k.elim h1 fun k => k.2.2 h2
theorem mut_one {X : List Nat} {w : World} {b : Nat} {o : Obj} (h : w.heap[b]? = some o) (hn : ¬ Imm X b o) : Mut X w [b] := by
  intro k hk o' ho
  simp only [List.mem_singleton] at hk
  subst hk
  rw [h] at ho; cases ho
  exact hn
theorem mut_row {X : List Nat} {w : World} {base e size n : Nat} {v : Value} {xs : List Value} (h : w.ownsRow base e size v n xs) (ht : e ∉ immT) (hn : e ∉ oneT ∨ (size = 1 ∧ 2 ≤ n)) : Mut X w v.ownBlock.toList := by
  intro k hk o ho
  simp only [Option.mem_toList] at hk
  rcases h.2 with ⟨rfl, _⟩ | ⟨g, cap, cur, rfl, _, hh, h5, h6, h7, _⟩
  · simp [Value.ownBlock] at hk
  · simp only [Value.ownBlock, Option.some.injEq] at hk
    subst hk
    rw [hh] at ho; cases ho
    rcases hn with hn | ⟨rfl, hn⟩
    · exact imm_ty ht hn
    · exact imm_many ht (by omega)

/-! a tree -/
structure TA where
  tb : Nat
  mp : Nat
  mb : Nat
  mv : Value
  av : Value
  nb : List Nat
  wb : List Nat
  top : Value
def TA.np (A : TA) (p : Nat) : Value := pt (A.nb.getD p 0)
def TA.wp (A : TA) (i : Nat) : Value := pt (A.wb.getD (i - 1) 0)
def TA.foot (A : TA) : List Nat := A.tb :: A.mp :: (MemAt.foot A.mb A.mv ++ A.av.ownBlock.toList)
def nodV (p : Nat) (n : Nd) : Array Value := #[.int .u64 p, .bool n.inner, .bool n.fin, .string n.key, .int .u64 n.val, .int .i64 n.cell]
def NodB (w : World) (b p : Nat) (n : Nd) : Prop := w.heap[b]? = some (.cells (nodV p n) 98 (0, 0))
def wkV (A : TA) (i : Nat) (o : Wk) : Array Value := #[.int .i64 i, .int .i64 o.state, .string o.key, A.np o.at_, A.np o.old, (match o.next with | none => .pointer none | some p => A.np p), .int .u64 o.seen]
def WkB (w : World) (A : TA) (b i : Nat) (o : Wk) : Prop := w.heap[b]? = some (.cells (wkV A i o) 121 (0, 0))
def treeV (A : TA) (t : Tr) : Array Value := #[pt A.mb, A.av, A.top, .map (some A.mp), .int .i64 t.ws.length]
def isPt : Value → Bool
  | .pointer _ => true
  | _ => false
def ptOk (v : Value) : Bool := isPt v
theorem ptOk_inv {v : Value} (h : ptOk v = true) : ∃ c, v = .pointer c := by
  cases v with
  | pointer c => exact ⟨c, rfl⟩
  | _ => cases h
def worksG (A : TA) (t : Tr) : Int → Option Value := fun i => if 0 < i ∧ t.live i.toNat = true then some (A.wp i.toNat) else none
structure TreeB (w : World) (A : TA) (t : Tr) : Prop where
  blk : w.heap[A.tb]? = some (.cells (treeV A t) 49 (0, 0))
  mem : MemAt w A.mb A.mv t.ms
  row : w.ownsRow 0 45 1 A.av t.ns.length (A.nb.map pt)
  nlen : A.nb.length = t.ns.length
  nods : ∀ p b, A.nb[p]? = some b → NodB w b p (t.nd p)
  map : MapG Try.prog 3 intD ptOk w A.mp t.ws.length (worksG A t)
  wlen : A.wb.length = t.ws.length
  wks : ∀ i b, A.wb[i]? = some b → WkB w A b (i + 1) (t.wk (i + 1))
structure TreeAt (w : World) (A : TA) (t : Tr) : Prop extends TreeB w A t where
  lo : 3 ≤ t.ns.length ∧ 3 ≤ t.ms.c.length
  top : A.top = A.np 2
theorem nod_imm {X : List Nat} {b p : Nat} {n : Nd} : Imm X b (.cells (nodV p n) 98 (0, 0)) := ⟨_, _, rfl, Or.inl (by simp [immT])⟩
theorem wk_imm {X : List Nat} {A : TA} {b i : Nat} {o : Wk} : Imm X b (.cells (wkV A i o) 121 (0, 0)) := ⟨_, _, rfl, Or.inl (by simp [immT])⟩
theorem TreeAt.mut {X : List Nat} {w : World} {A : TA} {t : Tr} (h : TreeAt w A t) : Mut X w A.foot := by
  have h1 : Mut X w [A.tb] := mut_one h.blk (imm_ty (by decide) (by decide))
  have h2 : Mut X w [A.mp] := by
    obtain ⟨es, c, hm⟩ := h.map.isMap
    exact mut_one hm (by rintro ⟨cur, T, hc, _⟩; cases hc)
  have h3 : Mut X w [A.mb] := mut_one h.mem.blk (imm_ty (by decide) (by decide))
  have h4 : Mut X w A.mv.ownBlock.toList := mut_row h.mem.row (by decide) (Or.inr ⟨rfl, by have := h.lo.2; omega⟩)
  have h5 : Mut X w A.av.ownBlock.toList := mut_row h.row (by decide) (Or.inr ⟨rfl, by have := h.lo.1; omega⟩)
  exact (h1.app (h2.app ((h3.app h4).app h5))).sub (by intro x hx; simpa [TA.foot, MemAt.foot] using hx)
theorem TreeAt.iv {X : List Nat} {w w' : World} {A : TA} {t : Tr} (h : TreeAt w A t) (hf : Fr A.foot w w') : Iv X w w' := hf.iv h.mut
theorem TreeB.apart {w : World} {A : TA} {t : Tr} (h : TreeB w A t) : A.tb ≠ A.mp ∧ A.tb ≠ A.mb ∧ A.mp ≠ A.mb ∧ (∀ k, A.mv.ownBlock = some k → k ≠ A.tb ∧ k ≠ A.mp ∧ k ≠ A.mb) ∧ (∀ k, A.av.ownBlock = some k → k ≠ A.tb ∧ k ≠ A.mp ∧ k ≠ A.mb) ∧ (∀ k, A.av.ownBlock = some k → A.mv.ownBlock ≠ some k) := by
  obtain ⟨es, c, hm⟩ := h.map.isMap
  have ht := h.blk
  have hb := h.mem.blk
  have row : ∀ {base e size n : Nat} {v : Value} {xs : List Value}, w.ownsRow base e size v n xs → ∀ k, v.ownBlock = some k → ∃ cur, w.heap[k]? = some (.cells cur e (0, 0)) := by
    intro base e size n v xs ho k hk
    rcases ho.2 with ⟨rfl, _⟩ | ⟨g, cap, cur, rfl, _, hh, _⟩
    · cases hk
    · cases hk; exact ⟨cur, hh⟩
  refine ⟨fun e => ?_, fun e => ?_, fun e => ?_, fun k hk => ?_, fun k hk => ?_, fun k hk h2 => ?_⟩
  · rw [e, hm] at ht; cases ht
  · rw [e, hb] at ht; simp only [Option.some.injEq, Obj.cells.injEq] at ht; exact absurd ht.2.1 (by decide)
  · rw [e, hb] at hm; cases hm
  · obtain ⟨cur, hc⟩ := row h.mem.row k hk
    refine ⟨fun e => ?_, fun e => ?_, fun e => ?_⟩ <;> subst e
    · rw [hc] at ht; cases ht
    · rw [hc] at hm; cases hm
    · rw [hc] at hb; cases hb
  · obtain ⟨cur, hc⟩ := row h.row k hk
    refine ⟨fun e => ?_, fun e => ?_, fun e => ?_⟩ <;> subst e
    · rw [hc] at ht; cases ht
    · rw [hc] at hm; cases hm
    · rw [hc] at hb; cases hb
  · obtain ⟨cur, hc⟩ := row h.row k hk
    obtain ⟨cur2, hc2⟩ := row h.mem.row k h2
    rw [hc] at hc2; cases hc2
theorem TreeB.ty {w : World} {A : TA} {t : Tr} (h : TreeB w A t) : ∀ k ∈ A.foot, ∀ cur T f, w.heap[k]? = some (.cells cur T f) → T ∈ [49, 52, 39, 45] := by
  intro k hk cur T f hc
  have row : ∀ {base e size n : Nat} {v : Value} {xs : List Value}, w.ownsRow base e size v n xs → v.ownBlock = some k → T = e := by
    intro base e size n v xs ho hk
    rcases ho.2 with ⟨rfl, _⟩ | ⟨g, cap, cur', rfl, _, hh, _⟩
    · cases hk
    · cases hk
      rw [hc] at hh; simp only [Option.some.injEq, Obj.cells.injEq] at hh; exact hh.2.1
  simp [TA.foot, MemAt.foot] at hk
  rcases hk with rfl | rfl | rfl | hk | hk
  · have := h.blk; rw [hc] at this; simp only [Option.some.injEq, Obj.cells.injEq] at this; simp [this.2.1]
  · obtain ⟨es, c, hm⟩ := h.map.isMap; rw [hc] at hm; cases hm
  · have := h.mem.blk; rw [hc] at this; simp only [Option.some.injEq, Obj.cells.injEq] at this; simp [this.2.1]
  · simp [row h.mem.row hk]
  · simp [row h.row hk]
theorem TreeB.nodK {w w' : World} {A : TA} {t : Tr} (h : TreeB w A t) (hf : Fr A.foot w w') {b p : Nat} {n : Nd} (hb : NodB w b p n) : NodB w' b p n :=
  hf.keep hb (fun hm => absurd (h.ty _ hm _ _ _ hb) (by decide))
theorem TreeB.wkK {w w' : World} {A : TA} {t : Tr} (h : TreeB w A t) (hf : Fr A.foot w w') {A' : TA} {b i : Nat} {o : Wk} (hb : WkB w A' b i o) : WkB w' A' b i o :=
  hf.keep hb (fun hm => absurd (h.ty _ hm _ _ _ hb) (by decide))
theorem TreeB.keep {X S : List Nat} {w w' : World} {A : TA} {t : Tr} (h : TreeB w A t) (hf : Fr S w w') (hi : Iv X w w') (hs : ∀ k ∈ A.foot, k ∉ S) : TreeB w' A t := by
  have hs' : A.tb ∉ S ∧ A.mp ∉ S ∧ A.mb ∉ S ∧ (∀ k, A.mv.ownBlock = some k → k ∉ S) ∧ (∀ k, A.av.ownBlock = some k → k ∉ S) := by
    refine ⟨hs _ (by simp [TA.foot]), hs _ (by simp [TA.foot]), hs _ (by simp [TA.foot, MemAt.foot]), fun k hk => hs _ (by simp [TA.foot, MemAt.foot, hk]), fun k hk => hs _ (by simp [TA.foot, MemAt.foot, hk])⟩
  obtain ⟨s1, s2, s3, s4, s5⟩ := hs'
  exact ⟨hf.keep h.blk s1, h.mem.keep hf s3 s4, ownsRow_fr hf h.row s5, h.nlen, fun p b hp => hi.keep _ _ (h.nods p b hp) nod_imm, h.map.keep hf s2, h.wlen, fun i b hb => hi.keep _ _ (h.wks i b hb) wk_imm⟩
theorem TreeAt.keep {X S : List Nat} {w w' : World} {A : TA} {t : Tr} (h : TreeAt w A t) (hf : Fr S w w') (hi : Iv X w w') (hs : ∀ k ∈ A.foot, k ∉ S) : TreeAt w' A t := ⟨h.toTreeB.keep hf hi hs, h.lo, h.top⟩
theorem TreeB.keep0 {w w' : World} {A : TA} {t : Tr} (h : TreeB w A t) (hf : Fr [] w w') : TreeB w' A t := h.keep (X := []) hf hf.iv0 (by simp)
theorem TreeAt.keep0 {w w' : World} {A : TA} {t : Tr} (h : TreeAt w A t) (hf : Fr [] w w') : TreeAt w' A t := h.keep (X := []) hf hf.iv0 (by simp)
theorem TreeAt.node {w : World} {A : TA} {t : Tr} (h : TreeAt w A t) {p : Nat} (hp : p < t.ns.length) : ∃ b, A.np p = pt b ∧ NodB w b p (t.nd p) := by
  have : p < A.nb.length := by rw [h.nlen]; exact hp
  exact ⟨A.nb[p], by simp [TA.np, List.getD_eq_getElem?_getD, this], h.nods p _ (List.getElem?_eq_getElem this)⟩
theorem TreeAt.work {w : World} {A : TA} {t : Tr} (h : TreeAt w A t) {i : Nat} (h0 : 1 ≤ i) (hi : i ≤ t.ws.length) : ∃ b, A.wp i = pt b ∧ WkB w A b i (t.wk i) := by
  have : i - 1 < A.wb.length := by rw [h.wlen]; omega
  refine ⟨A.wb[i - 1], by simp [TA.wp, List.getD_eq_getElem?_getD, this], ?_⟩
  have := h.wks (i - 1) _ (List.getElem?_eq_getElem this)
  rwa [show i - 1 + 1 = i by omega] at this
theorem nod_cells {w : World} {b p : Nat} {n : Nd} (hb : NodB w b p n) : w.cell? ⟨b, 0, none⟩ = some (.int .u64 p) ∧ w.cell? ⟨b, 1, none⟩ = some (.bool n.inner) ∧ w.cell? ⟨b, 2, none⟩ = some (.bool n.fin) ∧ w.cell? ⟨b, 3, none⟩ = some (.string n.key) ∧
    w.cell? ⟨b, 4, none⟩ = some (.int .u64 n.val) ∧ w.cell? ⟨b, 5, none⟩ = some (.int .i64 n.cell) := by
  unfold NodB nodV at hb
  exact ⟨by simpa using cell_block hb 0, by simpa using cell_block hb 1, by simpa using cell_block hb 2, by simpa using cell_block hb 3, by simpa using cell_block hb 4, by simpa using cell_block hb 5⟩
theorem wk_cells {w : World} {A : TA} {b i : Nat} {o : Wk} (hb : WkB w A b i o) : w.cell? ⟨b, 0, none⟩ = some (.int .i64 i) ∧ w.cell? ⟨b, 1, none⟩ = some (.int .i64 o.state) ∧ w.cell? ⟨b, 2, none⟩ = some (.string o.key) ∧ w.cell? ⟨b, 3, none⟩ = some (A.np o.at_) ∧
    w.cell? ⟨b, 4, none⟩ = some (A.np o.old) ∧ w.cell? ⟨b, 5, none⟩ = some (match o.next with | none => .pointer none | some p => A.np p) ∧ w.cell? ⟨b, 6, none⟩ = some (.int .u64 o.seen) := by
  unfold WkB wkV at hb
  exact ⟨by simpa using cell_block hb 0, by simpa using cell_block hb 1, by simpa using cell_block hb 2, by simpa using cell_block hb 3, by simpa using cell_block hb 4, by simpa using cell_block hb 5, by simpa using cell_block hb 6⟩
theorem tree_cells {w : World} {A : TA} {t : Tr} (h : TreeB w A t) : w.cell? ⟨A.tb, 0, none⟩ = some (pt A.mb) ∧ w.cell? ⟨A.tb, 1, none⟩ = some A.av ∧ w.cell? ⟨A.tb, 2, none⟩ = some A.top ∧ w.cell? ⟨A.tb, 3, none⟩ = some (.map (some A.mp)) ∧
    w.cell? ⟨A.tb, 4, none⟩ = some (.int .i64 t.ws.length) := by
  have hb := h.blk
  unfold treeV at hb
  exact ⟨by simpa using cell_block hb 0, by simpa using cell_block hb 1, by simpa using cell_block hb 2, by simpa using cell_block hb 3, by simpa using cell_block hb 4⟩

/-! a way, and a call -/
structure CA where
  cb : Nat
  wb : Nat
  bc : Nat
  b0 : Nat
  b1 : Nat
  b2 : Nat
  b3 : Nat
  b4 : Nat
  b5 : Nat
  b6 : Nat
  b7 : Nat
  pv : Value
def fn (n : Nat) (bs : List Nat) : Value := .func (.func n) #[] (bs.map pt).toArray
def tellV (a : CA) : Value := fn 42 [a.bc]
def begV (a : CA) : Value := fn 48 [a.b0, a.b5, a.b4]
def growV (a : CA) : Value := fn 51 [a.b0, a.b6, a.b1, a.b4, a.b2, a.b3]
def loseV (a : CA) : Value := fn 1000000 [a.b4, a.b1, a.b0, a.b3]
def foundV (a : CA) : Value := fn 1000000 [a.b3]
/-- a call's leaf function, and whereto it goes -/
def leafV (a : CA) : Kd → Md → Value
  | .ins, _ => fn 59 [a.b1, a.b3, a.b5, a.b4, a.b7]
  | .rem, _ => fn 1000000 [a.b1, a.b3, a.b4, a.b7]
  | .fnd, _ => fn 46 [a.b1, a.b3]
  | .sek, .seek => fn 1000000 [a.b1, a.b7, a.b0, a.b5]
  | .sek, _ => foundV a
def towV (a : CA) : Md → Value
  | .find => fn 43 [a.b1]
  | .seek => fn 1000000 [a.b1, a.b5]
  | .left => fn 66 []
  | .way => .func (.func 71) #[pt a.wb] #[]
def psV (A : TA) (p : Ps) : List Value := [A.np p.node, .bool p.asked, .int .u64 p.seen]
structure WayAt (w : World) (A : TA) (a : CA) (key : ByteArray) (lv : Value) (path : List Ps) : Prop where
  blk : w.heap[a.wb]? = some (.cells #[pt A.tb, .string key, a.pv, lv] 114 (0, 0))
  row : w.ownsRow 0 117 3 a.pv path.length (path.flatMap (psV A))
def WayAt.foot (a : CA) : List Nat := a.wb :: a.pv.ownBlock.toList
def clV (N : Value) (r : An) : Array Value := #[N, .bool r.ok, .string r.key, .int .u64 r.val, .int .i64 r.err]
def CallB (w : World) (cb : Nat) (N : Value) (r : An) : Prop := w.heap[cb]? = some (.cells (clV N r) 103 (0, 0))
def ovV (A : TA) : Option Nat → Value
  | none => .pointer none
  | some p => A.np p
/-- what never changes of a call -/
structure CtxI (X : List Nat) (w : World) (A : TA) (a : CA) (kd : Kd) (key : ByteArray) (val : Int) : Prop where
  vc : Va X w a.bc 28 (pt a.cb)
  vt : Va X w a.b3 57 (tellV a)
  vk : Va X w a.b1 9 (.string key)
  vx : kd ≠ .fnd → Va X w a.b0 96 (pt A.tb)
  vw : kd = .ins ∨ kd = .rem → Va X w a.b4 111 (pt a.wb)
  v2 : kd = .ins → Va X w a.b2 39 (.int .u64 val) ∧ Va X w a.b6 58 (begV a) ∧ Va X w a.b7 110 (growV a)
  v7 : kd = .rem → Va X w a.b7 110 (loseV a)
  vf : kd = .sek → Va X w a.b7 110 (foundV a)
/-- a call, but for what its next step is -/
structure CallM (X : List Nat) (w : World) (A : TA) (a : CA) (c : Cl) (N : Value) : Prop where
  ctx : CtxI X w A a c.kd c.key c.val
  cbk : CallB w a.cb N c.ans
  way : c.kd = .ins ∨ c.kd = .rem → WayAt w A a c.key (leafV a c.kd .way) c.path
  full : c.kd = .ins → w.heap[a.b5]? = some (.cells #[.bool c.full] 4 (0, 0))
  over : c.kd = .sek → w.heap[a.b5]? = some (.cells #[ovV A c.over] 45 (0, 0)) ∧ a.b5 ∈ X
def CA.foot (a : CA) : Kd → List Nat
  | .ins => a.cb :: a.b5 :: WayAt.foot a
  | .rem => a.cb :: WayAt.foot a
  | .fnd => [a.cb]
  | .sek => [a.cb, a.b5]
/-- what is gone on by -/
def ThAt (X : List Nat) (w : World) (A : TA) (a : CA) (kd : Kd) (V : Value) : Th → Prop
  | .told l => match kd with
    | .ins => V = fn 58 [a.b3, a.b1, a.b2]
    | _ => ∃ b, V = fn 1000000 [a.b3, a.b1, b] ∧ Va X w b 45 (A.np l)
  | .look => V = .func (.func 78) #[pt a.wb] #[]
  | .fail => V = fn 1000000 [a.b4]
def StpAt (X : List Nat) (w : World) (A : TA) (a : CA) (kd : Kd) (V : Value) : Stp → Prop
  | .desc b m => ∃ p0 p1 p2 p3, V = fn 68 [p0, p1, p2, p3] ∧ Va X w p0 96 (pt A.tb) ∧ w.heap[p1]? = some (.cells #[.int .i64 b.cell, .int .u64 b.first] 105 (0, 0)) ∧
      Va X w p2 107 (towV a m) ∧ Va X w p3 110 (leafV a kd m)
  | .beg => V = begV a
  | .look => ∃ p, V = fn 90 [p] ∧ Va X w p 111 (pt a.wb)
  | .down => ∃ p, V = fn 86 [p] ∧ Va X w p 111 (pt a.wb)
  | .grow l => ∃ b, V = fn 52 [a.b0, a.b6, a.b1, a.b4, b, a.b2, a.b3] ∧ Va X w b 45 (A.np l)
  | .lose l => ∃ b, V = fn 1000000 [a.b4, a.b1, a.b0, a.b3, b] ∧ Va X w b 45 (A.np l)
  | .mark o th fl => ∃ p0 p1 p2 p3 T F, V = fn 93 [p1, p0, p2, p3] ∧ Va X w p0 96 (pt A.tb) ∧ Va X w p1 115 (A.wp o) ∧ Va X w p2 59 T ∧ Va X w p3 59 F ∧
      ThAt X w A a kd T th ∧ ThAt X w A a kd F fl
  | .drop o th => ∃ p0 p1 p2 T, V = fn 94 [p0, p1, p2] ∧ Va X w p0 96 (pt A.tb) ∧ Va X w p1 115 (A.wp o) ∧ Va X w p2 59 T ∧ ThAt X w A a kd T th
  | .take o n th => ∃ p0 p1 p2 p3 T, V = fn 79 [p0, p1, p2, p3] ∧ Va X w p0 96 (pt A.tb) ∧ Va X w p1 115 (A.wp o) ∧ Va X w p2 45 (A.np n) ∧ Va X w p3 59 T ∧ ThAt X w A a kd T th
  | .fin o th => ∃ p0 p1 p2 T, V = fn 91 [p0, p1, p2] ∧ Va X w p0 96 (pt A.tb) ∧ Va X w p1 115 (A.wp o) ∧ Va X w p2 59 T ∧ ThAt X w A a kd T th
def OutV (X : List Nat) (w : World) (A : TA) (a : CA) (kd : Kd) (V : Value) : Option Stp → Prop
  | none => V = .nilFunc
  | some s => StpAt X w A a kd V s
end Go.Proofs.Ytmhiolhgofackaa
