/- PACKAGE bst: Keys (written by bst_keys.py) -/
import Derived.Test.YtmhiolhgofackaaGreatBsOp
namespace Go.Proofs.YtmhiolhgofackaaGreat
open Go.RowKit
set_option linter.unusedVariables false
set_option linter.unusedSimpArgs false

theorem st_slice : Tryz.prog.underlying 22 = some (.slice 9) := Tryz.underlying22
theorem st_info : (Tryz.prog.info? 9).map (fun i => (i.zero, i.size, i.bytes)) = some (some (.string ⟨#[]⟩), 1, 16) := by kernel_rfl
abbrev strs (l : List ByteArray) : List Value := l.map Value.string
def Strs (w : World) (v : Value) (l : List ByteArray) : Prop := w.ownsRow 0 9 1 v l.length (strs l)
theorem Strs.form {w : World} {v : Value} {l : List ByteArray} (h : Strs w v l) : ∃ s c, v = .slice s l.length c := by
  rcases ownsRow_form h with ⟨hv, hn⟩ | ⟨g, c, hv, _, _⟩
  · exact ⟨none, 0, by rw [hv, hn]⟩
  · exact ⟨_, c, hv⟩
theorem Strs.ty {w : World} {v : Value} {l : List ByteArray} (h : Strs w v l) : ∀ k, v.ownBlock = some k → ∃ cur, w.heap[k]? = some (.cells cur 9 (0, 0)) := by
  intro k hk
  rcases h.2 with ⟨rfl, _⟩ | ⟨g, cap, cur, rfl, _, hh, _⟩
  · cases hk
  · cases hk; exact ⟨cur, hh⟩
theorem Strs.keep {w w' : World} {v : Value} {l : List ByteArray} {S : List Nat} (h : Strs w v l) (hf : Fr S w w') (hn : ∀ k, v.ownBlock = some k → k ∉ S) : Strs w' v l := ownsRow_fr hf h hn
theorem Strs.nil (w : World) : Strs w (.slice none 0 0) [] := ⟨rfl, Or.inl ⟨rfl, rfl⟩⟩
/-- rows of strings that are written to -/
def StrS (w : World) (S : List Nat) : Prop := ∀ k ∈ S, ∃ cur, w.heap[k]? = some (.cells cur 9 (0, 0))
theorem Strs.strS {w : World} {v : Value} {l : List ByteArray} (h : Strs w v l) : StrS w v.ownBlock.toList := fun k hk => h.ty k (by simpa using hk)
theorem TreeAt.strs {w w' : World} {A : TA} {t : Tr} {S : List Nat} (h : TreeAt w A t) (hf : Fr S w w') (hS : StrS w S) : TreeAt w' A t := by
  have hn : ∀ k ∈ A.foot, k ∉ S := fun k hk hm => by
    obtain ⟨cur, hc⟩ := hS k hm
    have := h.ty k hk _ _ _ hc
    revert this; decide
  have hne : ∀ {b : Nat} {c : Array Value} {T : TypeId} {f : Nat × Nat}, w.heap[b]? = some (.cells c T f) → T ≠ 9 → b ∉ S := fun hb hT hm => by
    obtain ⟨cur, hc⟩ := hS _ hm
    rw [hb] at hc; simp only [Option.some.injEq, Obj.cells.injEq] at hc
    exact hT hc.2.1
  refine ⟨⟨hf.keep h.blk (hn _ A.foot_in.1), h.mem.keep hf (hn _ A.foot_in.2.2.1) (fun k hk => hn _ (A.foot_in.2.2.2.1 k hk)), ownsRow_fr hf h.row (fun k hk => hn _ (A.foot_in.2.2.2.2 k hk)), h.nlen, fun p b hp => ?_, h.map.keep hf (hn _ A.foot_in.2.1), h.wlen, fun i b hb => ?_⟩, h.lo, h.top⟩
  · have := h.nods p b hp
    exact hf.keep this (hne this (by decide))
  · have := h.wks i b hb
    exact hf.keep this (hne this (by decide))
theorem Fr.strS {w w' : World} {S T : List Nat} (h : StrS w S) (hf : Fr T w w') (hT : ∀ k ∈ S, k ∉ T) : StrS w' S := fun k hk => by
  obtain ⟨cur, hc⟩ := h k hk
  exact ⟨cur, hf.keep hc (hT k hk)⟩
/-- the keys, from left to right -/
def keysT (t : Tr) : PT → List ByteArray
  | .leaf p => if (t.nd p).fin then [] else [(t.nd p).key]
  | .node _ l r => keysT t l ++ keysT t r
def KeysPost (w : World) (A : TA) (t : Tr) (lv : Value) (xs : List ByteArray) (e : Ending) (w' : World) : Prop :=
  ∃ v, e = .returned v ∧ Strs w' v xs ∧ TreeAt w' A t ∧ Fr lv.ownBlock.toList w w' ∧ ∀ k, v.ownBlock = some k → lv.ownBlock = some k ∨ w.heap.size ≤ k
theorem inOk_nd {t : Tr} {p : Nat} (h : InOk t p) (hl : t.ns.length ≤ 65536) : NdOk t p := h.nd hl
theorem br_two {w : World} {b0 b1 : Br} {W : World} (h : W = w.alloc (.cells #[.int .i64 b0.cell, .int .u64 b0.first, .int .i64 b1.cell, .int .u64 b1.first] 118)) : W.heap[w.heap.size]? = some (.cells #[.int .i64 b0.cell, .int .u64 b0.first, .int .i64 b1.cell, .int .u64 b1.first] 118 (0, 0)) := by rw [h]; exact new_block w _
set_option maxHeartbeats 4000000 in
theorem keys_leaf {A : TA} {t : Tr} {p : Nat} {w : World} {lv : Value} {xs : List ByteArray} (hT : TreeAt w A t) (hp : LfOk t p) (hx : Strs w lv xs) (hl : xs.length ≤ 1000000) :
    Calls Tryz.prog 34 #[pt A.tb, lv, A.np p] w (KeysPost w A t lv (xs ++ keysT t (.leaf p))) := by
  obtain ⟨b, hb1, hb2⟩ := hT.node hp.1
  have hinn := hp.2
  rw [hb1]
  unfold keysT
  obtain ⟨_, y1, y2, y3, _, _⟩ := nod_cells hb2
  rw [hinn] at y1
  have HB := Lib.hid hb2
  have HT := Lib.hid hT
  have HX := Lib.hid hx
  cases hf : (t.nd p).fin
  · rw [hf] at y2
    rw [if_neg Bool.false_ne_true]
    obtain ⟨key, hkey⟩ : ∃ k, k = (t.nd p).key := ⟨_, rfl⟩
    rw [← hkey] at y3 ⊢
    obtain ⟨s, c, hlv⟩ := hx.form
    subst hlv
    have hlt := lt_of_block hb2
    have HL := Lib.hid hl
    clear hT hp hx hb1 hb2 hinn hf hkey hl
    go_enter Tryz.func34, Tryz.ntmps34
    go_wp2_with (at_builtin; refine wpList_append_fr rfl (.tmp 28) (.tmp 33) 22 9 (.string ⟨#[]⟩) 1 16 rfl st_slice st_info rfl (by decide) (.slice s xs.length c) xs.length (strs xs) rfl ?own _ 1 [.string key] rfl ?src (by intro y hy; simp at hy; subst hy; rfl) (by have := HL.out; unfold maxLen; omega) (by have := HL.out; omega) ?app)
    case own => exact ownsRow_fr ((Fr.refl [] w).alloc _) HX.out (by simp)
    case src => exact own_one _ _ _ _ rfl
    case app =>
    intro v' w2 hown hfr hat
    have hx2 : Strs w2 v' (xs ++ [key]) := by
      unfold Strs strs; simpa using hown
    have hF2 : Fr (Value.slice s xs.length c).ownBlock.toList w w2 := (((Fr.refl [] w).alloc _).mono (by simp)).trans hfr (fun x hx => Or.inl hx)
    have hat' : ∀ k, v'.ownBlock = some k → (Value.slice s xs.length c).ownBlock = some k ∨ w.heap.size ≤ k := fun k hk => (hat k hk).imp id (fun h => by rw [h]; simp)
    have HRES : Hid (KeysPost w A t (.slice s xs.length c) (xs ++ [key]) (.returned v') w2) := Lib.hid ⟨v', rfl, hx2, HT.out.strs hF2 HX.out.strS, hF2, hat'⟩
    obtain ⟨s2, c2, hv2⟩ := hx2.form
    subst hv2
    clear hown hfr hat hx2 hF2 hat'
    go_wp2
    go_ret
    exact HRES.out
  · rw [hf] at y2
    rw [if_pos rfl, List.append_nil]
    obtain ⟨s, c, hlv⟩ := hx.form
    subst hlv
    clear hT hp hx hb1 hb2 hinn hf hl
    go_enter Tryz.func34, Tryz.ntmps34
    go_wp2
    go_ret
    exact ⟨_, rfl, HX.out, HT.out, Fr.refl _ _, fun k hk => Or.inl hk⟩

def accK (t : Tr) (xs : List ByteArray) (l r : PT) : Nat → List ByteArray
  | 0 => xs
  | 1 => xs ++ keysT t l
  | _ => xs ++ keysT t l ++ keysT t r
def RecK (A : TA) (t : Tr) (T : PT) : Prop := ∀ (w : World) (lv : Value) (xs : List ByteArray), TreeAt w A t → Strs w lv xs → xs.length + (keysT t T).length ≤ 1000000 → Calls Tryz.prog 34 #[pt A.tb, lv, A.np T.pl] w (KeysPost w A t lv (xs ++ keysT t T))
/-- one round's -/
structure RdK (w wr : World) (A : TA) (t : Tr) (lv0 lv : Value) (xs : List ByteArray) (B : Nat) (b0 b1 : Br) : Prop where
  tree : TreeAt wr A t
  row : Strs wr lv xs
  fr : Fr lv0.ownBlock.toList w wr
  own : ∀ k, lv.ownBlock = some k → lv0.ownBlock = some k ∨ w.heap.size ≤ k
  blk : wr.heap[B]? = some (.cells #[.int .i64 b0.cell, .int .u64 b0.first, .int .i64 b1.cell, .int .u64 b1.first] 118 (0, 0))
theorem RdK.next {w wr w' W : World} {A : TA} {t : Tr} {lv0 lv : Value} {xs ys : List ByteArray} {B : Nat} {b0 b1 : Br} {e : Ending} (h : RdK w wr A t lv0 lv xs B b0 b1) (hW : Fr [] wr W) (hp : KeysPost W A t lv ys e w') : ∃ v, e = .returned v ∧ Hid (RdK w w' A t lv0 v ys B b0 b1) ∧ (∀ (b : Nat) (c : Array Value) (T : TypeId) (f : Nat × Nat), W.heap[b]? = some (Obj.cells c T f) → T ≠ 9 → w'.heap[b]? = some (Obj.cells c T f)) ∧ ∃ s n c, v = .slice s n c := by
  obtain ⟨v, rfl, k1, k2, k3, k4⟩ := hp
  have hWr : Strs W lv xs := h.row.keep hW (by simp)
  refine ⟨v, rfl, Lib.hid ⟨k2, k1, ?_, fun k hk => ?_, ?_⟩, fun b c T f hb hT => k3.keep hb (fun hm => ?_), let ⟨s, c, h⟩ := k1.form; ⟨s, _, c, h⟩⟩
  · refine (h.fr.trans (T := []) hW (by simp)).trans k3 (fun x hx => ?_)
    rcases h.own x (by simpa using hx) with h1 | h1
    · exact Or.inl (by simpa using h1)
    · exact Or.inr h1
  · rcases k4 k hk with h1 | h1
    · exact h.own k h1
    · exact Or.inr (Nat.le_trans h.fr.size (Nat.le_trans hW.size h1))
  · refine k3.keep (hW.keep h.blk (by simp)) (fun hm => ?_)
    obtain ⟨cur, hc⟩ := hWr.strS _ hm
    rw [hW.keep h.blk (by simp)] at hc; simp only [Option.some.injEq, Obj.cells.injEq] at hc
    exact absurd hc.2.1 (by decide)
  · obtain ⟨cur, hc⟩ := hWr.strS _ hm
    rw [hb] at hc; simp only [Option.some.injEq, Obj.cells.injEq] at hc
    exact hT hc.2.1
theorem TreeAt.rowc {W : World} {A : TA} {t : Tr} {g c P : Nat} (h : TreeAt W A t) (hav : A.av = .slice (some ⟨g, 0, none⟩) t.ns.length c) (hp : P < t.ns.length) : W.cell? ⟨A.tb, 1, none⟩ = some (.slice (some ⟨g, 0, none⟩) t.ns.length c) ∧ W.cell? ⟨g, P, none⟩ = some (A.np P) := by
  obtain ⟨_, q1, _⟩ := tree_cells h.toTreeB
  obtain ⟨g', c', hav', _, hk, _⟩ := h.slice
  rw [hav] at hav' q1
  cases hav'
  exact ⟨q1, hk P hp⟩
set_option maxRecDepth 20000 in
set_option maxHeartbeats 8000000 in
theorem keys_node {A : TA} {t : Tr} {p : Nat} {l r : PT} {w : World} {lv : Value} {xs : List ByteArray} (hT : TreeAt w A t) (hat : At t (.node p l r)) (hx : Strs w lv xs) (hln : t.ns.length ≤ 65536) (hcl : t.ms.c.length ≤ 65536) (hl : xs.length + (keysT t (.node p l r)).length ≤ 1000000) (rl : RecK A t l) (rr : RecK A t r) :
    Calls Tryz.prog 34 #[pt A.tb, lv, A.np p] w (KeysPost w A t lv (xs ++ keysT t (.node p l r))) := by
  obtain ⟨a1, a2, a3, a4, a5⟩ := hat
  obtain ⟨hn1, hn2, hn3, hn4, hn5⟩ := a1.nd hln
  obtain ⟨b, hb1, hb2⟩ := hT.node a1.lt
  rw [hb1]
  have hll := kid_lt a4
  have hlr := kid_lt a5
  have HLE : Hid (∀ W, NodB W b p (t.nd p) → Calls Tryz.prog 55 #[pt b] W fun e w' => e = .returned (t.left p).agg ∧ Fr [] W w') := Lib.hid fun W hW => nd_left _ p b W hW hn4 hn5 hn2 hn3
  have HRI : Hid (∀ W, NodB W b p (t.nd p) → Calls Tryz.prog 56 #[pt b] W fun e w' => e = .returned (t.right p).agg ∧ Fr [] W w') := Lib.hid fun W hW => nd_right _ p b W hW hn4 hn5 hn2 hn3
  obtain ⟨bl, hbl⟩ : ∃ bl, bl = t.left p := ⟨_, rfl⟩
  obtain ⟨br, hbr⟩ : ∃ br, br = t.right p := ⟨_, rfl⟩
  rw [← hbl] at HLE a2
  rw [← hbr] at HRI a3
  have hkl : (keysT t (.node p l r)).length = (keysT t l).length + (keysT t r).length := by simp [keysT]
  have HX0 : Hid (Strs w lv xs) := Lib.hid hx
  obtain ⟨_, y1, y2, y3, _, _⟩ := nod_cells hb2
  rw [a1.inner] at y1
  have HB := Lib.hid hb2
  have HT := Lib.hid hT
  have HPK : Hid (∀ W c, TreeAt W A t → Calls Tryz.prog 57 #[pt A.mb, .int .i64 c] W fun e w' => e = .returned (.tuple #[.int .u64 (t.ms.at c), .int .i64 (t.ms.err c)]) ∧ W = w') := Lib.hid fun W c hW => peek_any W A.mb c hW.mem hcl
  have HRL : Hid (∀ W lv, TreeAt W A t → Strs W lv xs → Calls Tryz.prog 34 #[pt A.tb, lv, A.np l.pl] W (KeysPost W A t lv (xs ++ keysT t l))) := Lib.hid fun W lv h1 h2 => rl W lv _ h1 h2 (by omega)
  have HRR : Hid (∀ W lv, TreeAt W A t → Strs W lv (xs ++ keysT t l) → Calls Tryz.prog 34 #[pt A.tb, lv, A.np r.pl] W (KeysPost W A t lv (xs ++ keysT t l ++ keysT t r))) := Lib.hid fun W lv h1 h2 => rr W lv _ h1 h2 (by simp; omega)
  have HEND : Hid (∀ e w', KeysPost w A t lv (xs ++ keysT t l ++ keysT t r) e w' → KeysPost w A t lv (xs ++ keysT t (.node p l r)) e w') := Lib.hid fun e w' h => by unfold keysT; rw [← List.append_assoc]; exact h
  have HKL : Hid (IntKind.u64.wrap (bl.first + t.ms.at bl.cell) = (l.pl : Int)) := Lib.hid (by rw [kid_eq t bl rfl, a2])
  have HKR : Hid (IntKind.u64.wrap (br.first + t.ms.at br.cell) = (r.pl : Int)) := Lib.hid (by rw [kid_eq t br rfl, a3])
  have HLL := Lib.hid hll
  have HLR := Lib.hid hlr
  have HLN := Lib.hid hln
  obtain ⟨s, c, hlv⟩ := hx.form
  subst hlv
  obtain ⟨lc, lf⟩ := bl
  obtain ⟨rc, rf⟩ := br
  obtain ⟨LP, hLP⟩ : ∃ LP, LP = l.pl := ⟨_, rfl⟩
  obtain ⟨RP, hRP⟩ : ∃ RP, RP = r.pl := ⟨_, rfl⟩
  rw [← hLP] at HRL HKL HLL
  rw [← hRP] at HRR HKR HLR
  obtain ⟨FL, hFL⟩ : ∃ f, f = t.ms.at lc := ⟨_, rfl⟩
  obtain ⟨FR, hFR⟩ : ∃ f, f = t.ms.at rc := ⟨_, rfl⟩
  obtain ⟨EL, hEL⟩ : ∃ f, f = t.ms.err lc := ⟨_, rfl⟩
  obtain ⟨ER, hER⟩ : ∃ f, f = t.ms.err rc := ⟨_, rfl⟩
  have HPL : Hid (∀ W, TreeAt W A t → Calls Tryz.prog 57 #[pt A.mb, .int .i64 lc] W fun e w' => e = .returned (.tuple #[.int .u64 FL, .int .i64 EL]) ∧ W = w') := Lib.hid fun W hW => by rw [hFL, hEL]; exact HPK.out W lc hW
  have HPR : Hid (∀ W, TreeAt W A t → Calls Tryz.prog 57 #[pt A.mb, .int .i64 rc] W fun e w' => e = .returned (.tuple #[.int .u64 FR, .int .i64 ER]) ∧ W = w') := Lib.hid fun W hW => by rw [hFR, hER]; exact HPK.out W rc hW
  dsimp only at HKL HKR
  rw [← hFL] at HKL
  rw [← hFR] at HKR
  unfold Br.agg at HLE HRI
  dsimp only at HLE HRI
  clear hT hx hb1 hb2 hll hlr hln hcl hl hkl hbl hbr a1 a2 a3 a4 a5 hn1 hn2 hn3 hn4 hn5 hLP hRP hFL hFR hEL hER HPK rl rr
  go_enter Tryz.func34, Tryz.ntmps34
  go_wp2_with (go_at_call 55; refine (HLE.out w HB.out).mono ?_; rintro e w1 ⟨rfl, hf1⟩; refine go_stop ?_)
  unfold Stop
  have HF1 := Lib.hid hf1
  clear hf1 y1 y2 y3
  go_wp2_with (go_at_call 56; refine (HRI.out w1 (HF1.out.keep HB.out (by simp))).mono ?_; rintro e w2 ⟨rfl, hf2⟩; refine go_stop ?_)
  unfold Stop
  obtain ⟨wa, hwa⟩ : ∃ wa, wa = w2.alloc (.cells #[.int .i64 lc, .int .u64 lf, .int .i64 rc, .int .u64 rf] 118) := ⟨_, rfl⟩
  have hfa : Fr [] w wa := by rw [hwa]; exact (HF1.out.trans (T := []) hf2 (by simp)).alloc _
  have H0 : Hid (RdK w wa A t (.slice s xs.length c) (.slice s xs.length c) xs w2.heap.size ⟨lc, lf⟩ ⟨rc, rf⟩) := Lib.hid ⟨HT.out.keep0 hfa, HX0.out.keep hfa (by simp), hfa.mono (by simp), fun k hk => Or.inl hk, by rw [hwa]; exact new_block w2 _⟩
  have HWA := Lib.hid hwa
  have HFA := Lib.hid hfa
  clear hf2 hwa hfa
  go_wp2_with fail
  change Code.wp _ _ _ _ (w2.alloc (.cells #[.int .i64 lc, .int .u64 lf, .int .i64 rc, .int .u64 rf] 118))
  rw [← HWA.out]
  obtain ⟨BB, hBB⟩ : ∃ BB, BB = w2.heap.size := ⟨_, rfl⟩
  rw [← hBB] at H0 ⊢
  clear HWA hBB
  go_loopg [1, 41] 2 (fun k lv i wr => ∃ (j : Nat) (lw : Value), j + k = 2 ∧ i = .int .i64 (j : Int) ∧ lv = lw ∧ RdK w wr A t (.slice s xs.length c) lw (accK t xs l r j) BB ⟨lc, lf⟩ ⟨rc, rf⟩)
  case atStart => exact ⟨0, _, rfl, rfl, rfl, H0.out⟩
  case round =>
    obtain ⟨j, lw, hj, rfl, rfl, hrd⟩ := hrel
    obtain ⟨s1, c1, hlv1⟩ := hrd.row.form
    obtain ⟨n1, hn1⟩ : ∃ n, n = (accK t xs l r j).length := ⟨_, rfl⟩
    rw [← hn1] at hlv1
    clear hn1
    subst hlv1
    have HRD := Lib.hid hrd
    clear hrd H0 HFA
    have hjj : j = 2 ∧ gk = 0 ∨ j = 1 ∧ gk = 1 ∨ j = 0 ∧ gk = 2 := by omega
    clear hj
    rcases hjj with ⟨rfl, rfl⟩ | ⟨rfl, rfl⟩ | ⟨rfl, rfl⟩
    · go_wp2
      go_ret
      exact HEND.out _ _ ⟨_, rfl, HRD.out.row, HRD.out.tree, HRD.out.fr, HRD.out.own⟩
    · obtain ⟨_, cf⟩ : True ∧ True := ⟨trivial, trivial⟩
      obtain ⟨q0, q1, _⟩ := tree_cells HRD.out.tree.toTreeB
      have z0 := cell_block HRD.out.blk 2
      have z1 := cell_block HRD.out.blk 3
      simp at z0 z1
      obtain ⟨wn, hwn⟩ : ∃ wn, wn = wr.alloc (.cells #[.int .i64 rc, .int .u64 rf] 118) := ⟨_, rfl⟩
      have hfn : Fr [] wr wn := by rw [hwn]; exact (Fr.refl [] wr).alloc _
      have hbn : wn.heap[wr.heap.size]? = some (.cells #[.int .i64 rc, .int .u64 rf] 118 (0, 0)) := by rw [hwn]; exact new_block wr _
      have HTN : Hid (TreeAt wn A t) := Lib.hid (HRD.out.tree.keep0 hfn)
      have HXN : Hid (Strs wn (.slice s1 n1 c1) (xs ++ keysT t l)) := Lib.hid (HRD.out.row.keep hfn (by simp))
      have HFN := Lib.hid hfn
      have HBN := Lib.hid hbn
      have HWN := Lib.hid hwn
      clear hfn hbn hwn q0 q1
      go_upto_region 2 with fail
      change Code.wp _ _ _ _ (wr.alloc (.cells #[.int .i64 rc, .int .u64 rf] 118))
      rw [← HWN.out]
      obtain ⟨nb, hnb⟩ : ∃ nb, nb = wr.heap.size := ⟨_, rfl⟩
      rw [← hnb] at HBN ⊢
      clear z0 z1 HWN hnb
      obtain ⟨q0, q1, _⟩ := tree_cells HTN.out.toTreeB
      obtain ⟨r0, r1, _⟩ := cells2 HBN.out
      go_region_held3 (fun W => W.cell? ⟨A.tb, 0, none⟩ = some (pt A.mb) ∧ W.cell? ⟨nb, 0, none⟩ = some (.int .i64 rc)) (go_keep)
        ((go_at_call 57; refine (HPR.out _ HTN.out.drew).mono ?_; rintro e w4 ⟨rfl, rfl⟩))
      have hkk := HLR.out
      have hke := HKR.out
      obtain ⟨g, gc, hav, hg, hgk, hgc⟩ := HTN.out.slice
      have HAV := Lib.hid hav
      rw [hav] at q1
      have g0 := hgk RP hkk
      have hk0 : (0 : Int) ≤ RP := by omega
      have hk1 : (RP : Int) < t.ns.length := by omega
      have hk2 : (RP : Int).toNat = RP := by omega
      clear hgk hgc hav hg
      go_upto_region 1 with fail
      go_region_held3 (fun W => W.cell? ⟨A.tb, 1, none⟩ = some (.slice (some ⟨g, 0, none⟩) t.ns.length gc) ∧ W.cell? ⟨nb, 1, none⟩ = some (.int .u64 rf) ∧ W.cell? ⟨g, RP, none⟩ = some (A.np RP)) (go_keep)
        ((go_at_call 34; refine (HRR.out _ _ (HTN.out.keep0 (by first | exact (Fr.refl [] _).drew.drew | exact ((Fr.refl [] _).drew.drewN _) | exact ((Fr.refl [] _).drew.drewN _).drew)) (HXN.out.keep (S := []) (by first | exact (Fr.refl [] _).drew.drew | exact ((Fr.refl [] _).drew.drewN _) | exact ((Fr.refl [] _).drew.drewN _).drew) (by simp))).mono ?_; rintro e w5 hp
          obtain ⟨v, rfl, HRD2, h9, s2, n2, c2, rfl⟩ := HRD.out.next (by first | exact HFN.out.drew.drew | exact HFN.out.drew.drewN _ | exact (HFN.out.drew.drewN _).drew) hp
          obtain ⟨q1, g0⟩ := HRD2.out.tree.rowc HAV.out HLR.out
          obtain ⟨r0, r1, _⟩ := cells2 (h9 _ _ _ _ ((show Fr [] wn _ by first | exact (Fr.refl [] _).drew.drew | exact ((Fr.refl [] _).drew.drewN _) | exact ((Fr.refl [] _).drew.drewN _).drew).keep HBN.out (by simp)) (by decide))
          clear hp h9))
      go_wp2
      go_roundg 0
      case measure => omega
      case rel => exact ⟨2, _, rfl, rfl, rfl, HRD2.out⟩
    · obtain ⟨_, cf⟩ : True ∧ True := ⟨trivial, trivial⟩
      obtain ⟨q0, q1, _⟩ := tree_cells HRD.out.tree.toTreeB
      have z0 := cell_block HRD.out.blk 0
      have z1 := cell_block HRD.out.blk 1
      simp at z0 z1
      obtain ⟨wn, hwn⟩ : ∃ wn, wn = wr.alloc (.cells #[.int .i64 lc, .int .u64 lf] 118) := ⟨_, rfl⟩
      have hfn : Fr [] wr wn := by rw [hwn]; exact (Fr.refl [] wr).alloc _
      have hbn : wn.heap[wr.heap.size]? = some (.cells #[.int .i64 lc, .int .u64 lf] 118 (0, 0)) := by rw [hwn]; exact new_block wr _
      have HTN : Hid (TreeAt wn A t) := Lib.hid (HRD.out.tree.keep0 hfn)
      have HXN : Hid (Strs wn (.slice s1 n1 c1) (xs)) := Lib.hid (HRD.out.row.keep hfn (by simp))
      have HFN := Lib.hid hfn
      have HBN := Lib.hid hbn
      have HWN := Lib.hid hwn
      clear hfn hbn hwn q0 q1
      go_upto_region 2 with fail
      change Code.wp _ _ _ _ (wr.alloc (.cells #[.int .i64 lc, .int .u64 lf] 118))
      rw [← HWN.out]
      obtain ⟨nb, hnb⟩ : ∃ nb, nb = wr.heap.size := ⟨_, rfl⟩
      rw [← hnb] at HBN ⊢
      clear z0 z1 HWN hnb
      obtain ⟨q0, q1, _⟩ := tree_cells HTN.out.toTreeB
      obtain ⟨r0, r1, _⟩ := cells2 HBN.out
      go_region_held3 (fun W => W.cell? ⟨A.tb, 0, none⟩ = some (pt A.mb) ∧ W.cell? ⟨nb, 0, none⟩ = some (.int .i64 lc)) (go_keep)
        ((go_at_call 57; refine (HPL.out _ HTN.out.drew).mono ?_; rintro e w4 ⟨rfl, rfl⟩))
      have hkk := HLL.out
      have hke := HKL.out
      obtain ⟨g, gc, hav, hg, hgk, hgc⟩ := HTN.out.slice
      have HAV := Lib.hid hav
      rw [hav] at q1
      have g0 := hgk LP hkk
      have hk0 : (0 : Int) ≤ LP := by omega
      have hk1 : (LP : Int) < t.ns.length := by omega
      have hk2 : (LP : Int).toNat = LP := by omega
      clear hgk hgc hav hg
      go_upto_region 1 with fail
      go_region_held3 (fun W => W.cell? ⟨A.tb, 1, none⟩ = some (.slice (some ⟨g, 0, none⟩) t.ns.length gc) ∧ W.cell? ⟨nb, 1, none⟩ = some (.int .u64 lf) ∧ W.cell? ⟨g, LP, none⟩ = some (A.np LP)) (go_keep)
        ((go_at_call 34; refine (HRL.out _ _ (HTN.out.keep0 (by first | exact (Fr.refl [] _).drew.drew | exact ((Fr.refl [] _).drew.drewN _) | exact ((Fr.refl [] _).drew.drewN _).drew)) (HXN.out.keep (S := []) (by first | exact (Fr.refl [] _).drew.drew | exact ((Fr.refl [] _).drew.drewN _) | exact ((Fr.refl [] _).drew.drewN _).drew) (by simp))).mono ?_; rintro e w5 hp
          obtain ⟨v, rfl, HRD2, h9, s2, n2, c2, rfl⟩ := HRD.out.next (by first | exact HFN.out.drew.drew | exact HFN.out.drew.drewN _ | exact (HFN.out.drew.drewN _).drew) hp
          obtain ⟨q1, g0⟩ := HRD2.out.tree.rowc HAV.out HLL.out
          obtain ⟨r0, r1, _⟩ := cells2 (h9 _ _ _ _ ((show Fr [] wn _ by first | exact (Fr.refl [] _).drew.drew | exact ((Fr.refl [] _).drew.drewN _) | exact ((Fr.refl [] _).drew.drewN _).drew).keep HBN.out (by simp)) (by decide))
          clear hp h9))
      go_wp2
      go_roundg 1
      case measure => omega
      case rel => exact ⟨1, _, rfl, rfl, rfl, HRD2.out⟩

theorem keys_rec {A : TA} {t : Tr} (hln : t.ns.length ≤ 65536) (hcl : t.ms.c.length ≤ 65536) : ∀ T : PT, At t T → RecK A t T := by
  intro T
  induction T with
  | leaf p => intro hat w lv xs h1 h2 h3; exact keys_leaf h1 hat h2 (by omega)
  | node p l r ihl ihr => intro hat w lv xs h1 h2 h3; exact keys_node h1 hat h2 hln hcl h3 (ihl hat.2.2.2.1) (ihr hat.2.2.2.2)
theorem keysT_len (t : Tr) : ∀ T : PT, (keysT t T).length ≤ T.inners.length + 1
  | .leaf p => by unfold keysT; split <;> simp [PT.inners]
  | .node p l r => by
    have h1 := keysT_len t l
    have h2 := keysT_len t r
    simp [keysT, PT.inners]; omega
def KeysQ (w : World) (A : TA) (t : Tr) (L : PT) (e : Ending) (w' : World) : Prop :=
  ∃ v, e = .returned v ∧ Hid (Strs w' v (keysT t L)) ∧ TreeAt w' A t ∧ Fr [] w w' ∧ (∀ k, v.ownBlock = some k → w.heap.size ≤ k) ∧ ∃ s c, v = .slice s (keysT t L).length c
set_option maxHeartbeats 2000000 in
theorem bt_Keys {A : TA} {t : Tr} {L : PT} {w : World} (hT : TreeAt w A t) (hq : Quiet t L) (hln : t.ns.length ≤ 65536) :
    Calls Tryz.prog 16 #[pt A.tb] w (KeysQ w A t L) := by
  have hlen := keysT_len t (.node 2 L (.leaf 1))
  have h2 : (PT.node 2 L (.leaf 1)).inners.length ≤ t.ns.length := nodup_len hq.nodup (fun x hx => (at_inners hq.at_ x hx).lt)
  have hkt : keysT t (.node 2 L (.leaf 1)) = keysT t L := by
    show keysT t L ++ (if (t.nd 1).fin then [] else _) = _
    rw [hq.one, if_pos rfl, List.append_nil]
  have HREC : Hid (∀ W, TreeAt W A t → Calls Tryz.prog 34 #[pt A.tb, .slice none 0 0, A.np 2] W fun e w' => ∃ s c, e = .returned (.slice s (keysT t L).length c) ∧ Hid (Strs w' (.slice s (keysT t L).length c) (keysT t L) ∧ TreeAt w' A t ∧ Fr [] W w' ∧ ∀ k, (Value.slice s (keysT t L).length c).ownBlock = some k → W.heap.size ≤ k)) := Lib.hid fun W hW => by
    refine (keys_rec (A := A) hln (by rw [hq.len]; exact hln) (.node 2 L (.leaf 1)) hq.at_ W (.slice none 0 0) [] hW (Strs.nil W) (by simp only [List.length_nil]; omega)).mono ?_
    rintro e w' ⟨v, rfl, k1, k2, k3, k4⟩
    rw [List.nil_append, hkt] at k1
    obtain ⟨s, c, rfl⟩ := k1.form
    exact ⟨s, c, rfl, Lib.hid ⟨k1, k2, k3, fun k hk => (k4 k hk).elim (fun e => by cases e) id⟩⟩
  obtain ⟨b2, hnp, _⟩ := hT.node (at_inners hq.at_ 2 (by simp [PT.inners])).lt
  have htop := hT.top
  rw [hnp] at htop HREC
  obtain ⟨_, _, q2, _⟩ := tree_cells hT.toTreeB
  rw [htop] at q2
  have HTOP := Lib.hid htop
  have HT := Lib.hid hT
  have H2 : Hid (∀ W s c, (Strs W (.slice s (keysT t L).length c) (keysT t L) ∧ TreeAt W A t ∧ Fr [] w.drew W ∧ ∀ k, (Value.slice s (keysT t L).length c).ownBlock = some k → w.drew.heap.size ≤ k) → KeysQ w A t L (.returned (.slice s (keysT t L).length c)) W) := Lib.hid fun W s c ⟨k1, k2, k3, k4⟩ => ⟨_, rfl, Lib.hid k1, k2, ((Fr.refl [] w).drew).trans k3 (by simp), k4, s, c, rfl⟩
  have HDR := Lib.hid (Fr.refl [] w).drew
  obtain ⟨KL, hKL⟩ : ∃ KL, KL = (keysT t L).length := ⟨_, rfl⟩
  rw [← hKL] at HREC H2
  clear hT hq hln hlen h2 hkt hnp htop hKL
  go_enter Tryz.func16, Tryz.ntmps16
  go_wp2_with fail
  go_region_held3 (fun W => W.cell? ⟨A.tb, 2, none⟩ = some (pt b2)) (go_keep)
    ((go_at_call 34; refine (HREC.out _ (HT.out.keep0 HDR.out)).mono ?_; rintro e w4 ⟨s, c, rfl, HR⟩
      obtain ⟨_, _, q2, _⟩ := tree_cells HR.out.2.1.toTreeB
      rw [HTOP.out] at q2))
  go_wp2
  go_ret
  exact H2.out _ _ _ HR.out
end Go.Proofs.YtmhiolhgofackaaGreat
