/- FrontModel: how the model, the map and the head lie beside each other while requests are served -/
import Derived.Test.YtmipllkgioakoaaGreatFrOps
namespace Go.Proofs.YtmipllkgioakoaaGreat
open Go.RowKit
set_option linter.unusedVariables false
set_option linter.unusedSimpArgs false

def hdO (a b c : Int) : Obj := .cells #[.int .i64 a, .int .i64 b, .int .i64 c] 29 (0, 0)
/-- between two requests -/
structure FmI (w0 : World) (p g bh : Nat) (M : MA) (n : Nat) (w : World) (S T : List Nat) : Prop where
  md : Md w p S M
  hs : Hs w g T M.H
  ok : MOk M n
  dis : ∀ k ∈ S, k ∉ T
  geS : ∀ k ∈ S, w0.heap.size ≤ k
  geT : ∀ k ∈ T, w0.heap.size ≤ k
  hb : w.heap[bh]? = some (hdO M.seq M.H.rows.length M.H.hor)
  hS : bh ∉ S
  hT : bh ∉ T
  ge : w0.heap.size ≤ bh
  fr : Fr [] w0 w
section
variable {w0 w w' : World} {p g bh : Nat} {M : MA} {n : Nat} {S T : List Nat}
theorem FmI.keep (h : FmI w0 p g bh M n w S T) (hf : Fr [] w w') : FmI w0 p g bh M n w' S T :=
  ⟨h.md.keep hf (by simp), h.hs.keep hf (by simp), h.ok, h.dis, h.geS, h.geT, hf.keep h.hb (by simp), h.hS, h.hT, h.ge, h.fr.trans hf (by simp)⟩
theorem FmI.mono (h : FmI w0 p g bh M n w S T) {m : Nat} (hm : n ≤ m) : FmI w0 p g bh M m w S T :=
  ⟨h.md, h.hs, h.ok.mono hm, h.dis, h.geS, h.geT, h.hb, h.hS, h.hT, h.ge, h.fr⟩
end
/-- behind the model's answer: the map is still to come -/
structure FmJ (w0 : World) (p g bh bq bw : Nat) (Q W : Obj) (v : Value) (L : List Kv) (M1 : MA) (H : HA) (a b c : Int) (n : Nat) (w : World) (S T : List Nat) : Prop where
  md : Md w p S M1
  hs : Hs w g T H
  ok : MOk M1 n
  dis : ∀ k ∈ S, k ∉ T
  geS : ∀ k ∈ S, w0.heap.size ≤ k
  geT : ∀ k ∈ T, w0.heap.size ≤ k
  hb : w.heap[bh]? = some (hdO a b c)
  hS : bh ∉ S
  hT : bh ∉ T
  ge : w0.heap.size ≤ bh
  qb : w.heap[bq]? = some Q
  qT : bq ∉ T
  qh : bq ≠ bh
  wb : w.heap[bw]? = some W
  wT : bw ∉ T
  wh : bw ≠ bh
  tl : LFar (bh :: T) Kv.cells 3 w v L
  fr : Fr [] w0 w
section
variable {w0 w w' w1 : World} {p g bh bq bw : Nat} {Q W : Obj} {v : Value} {L : List Kv} {M M1 : MA} {H H' : HA} {a b c a' b' c' : Int} {n : Nat} {S S1 T T' : List Nat}
theorem FmJ.keep (h : FmJ w0 p g bh bq bw Q W v L M1 H a b c n w S T) (hf : Fr [] w w') : FmJ w0 p g bh bq bw Q W v L M1 H a b c n w' S T :=
  ⟨h.md.keep hf (by simp), h.hs.keep hf (by simp), h.ok, h.dis, h.geS, h.geT, hf.keep h.hb (by simp), h.hS, h.hT, h.ge, hf.keep h.qb (by simp), h.qT, h.qh, hf.keep h.wb (by simp), h.wT, h.wh, h.tl.keep0 hf, h.fr.trans hf (by simp)⟩
theorem Hs.lt' (h : Hs w g T H) : ∀ k ∈ T, k < w.heap.size := fun k hk => h.lt k hk
/-- the model has answered -/
theorem FmI.served (h : FmI w0 p g bh M n w S T) {w2 : World} (hqb : w.heap[bq]? = some Q) (hqS : bq ∉ S) (hqT : bq ∉ T) (hqh : bq ≠ bh)
    (h1 : Md w1 p S1 M1) (hok : MOk M1 (n + 1)) (h2 : LIn Kv.cells 3 w1 v L) (h3 : ∀ k, v.ownBlock = some k → w.heap.size ≤ k) (h4 : Fr S w w1) (h5 : Grow S S1 w) (h6 : Fr [] w1 w2) (hw : w2.heap[w1.heap.size]? = some W) :
    FmJ w0 p g bh bq w1.heap.size Q W v L M1 M.H M.seq M.H.rows.length M.H.hor (n + 1) w2 S1 T := by
  have hlt : ∀ k ∈ T, k < w.heap.size := fun k hk => h.hs.lt k hk
  have hbl := lt_of_block h.hb
  have hsz := h4.size
  have hall : ∀ k ∈ S, w0.heap.size ≤ k := h.geS
  refine ⟨h1.keep h6 (by simp), (h.hs.keep h4 (fun k hk hm => h.dis k hm hk)).keep h6 (by simp), hok, ?_, ?_, h.geT, h6.keep (h4.keep h.hb h.hS) (by simp), ?_, h.hT, h.ge, h6.keep (h4.keep hqb hqS) (by simp), hqT, hqh, hw, ?_, by omega, ?_, ?_⟩
  · intro k hk hm
    rcases h5 k hk with h7 | h7
    · exact h.dis k h7 hm
    · have := hlt k hm; omega
  · exact h5.ge h.fr.size h.geS
  · intro hm
    rcases h5 bh hm with h7 | h7
    · exact h.hS h7
    · omega
  · intro hm; have := hlt _ hm; omega
  · refine LFar.keep0 ⟨h2, fun _ k hk hm => ?_⟩ h6
    have h8 := h3 k hk
    rcases List.mem_cons.1 hm with rfl | hm
    · omega
    · have := hlt k hm; omega
  · exact (h.fr.trans h4 (fun k hk => Or.inr (h.geS k hk))).trans h6 (by simp)
/-- the head has been stored -/
theorem FmJ.head (h : FmJ w0 p g bh bq bw Q W v L M1 H a b c n w S T) (hf : Fr [bh] w w') (hb : w'.heap[bh]? = some (hdO a' b' c')) : FmJ w0 p g bh bq bw Q W v L M1 H a' b' c' n w' S T :=
  ⟨h.md.keep hf (fun k hk hm => by simp at hm; exact h.hS (hm ▸ hk)), h.hs.keep hf (fun k hk hm => by simp at hm; exact h.hT (hm ▸ hk)), h.ok, h.dis, h.geS, h.geT, hb, h.hS, h.hT, h.ge, hf.keep h.qb (by simpa using h.qh), h.qT, h.qh, hf.keep h.wb (by simpa using h.wh), h.wT, h.wh, h.tl.keep (hf.mono (fun k hk => Or.inl (by simp at hk; simp [hk]))), h.fr.trans hf (fun k hk => Or.inr (by simp at hk; rw [hk]; exact h.ge))⟩
/-- the map has been changed -/
theorem FmJ.map (h : FmJ w0 p g bh bq bw Q W v L M1 H a b c n w S T) (h1 : Hs w' g T' H') (hf : Fr T w w') (hg : Grow T T' w) : FmJ w0 p g bh bq bw Q W v L M1 H' a b c n w' S T' := by
  have hbl := lt_of_block h.hb
  have hql := lt_of_block h.qb
  have hwl := lt_of_block h.wb
  have no : ∀ b, b ∉ T → b < w.heap.size → b ∉ T' := fun b hb hl hm => by
    rcases hg b hm with h7 | h7
    · exact hb h7
    · omega
  refine ⟨h.md.keep hf h.dis, h1, h.ok, fun k hk hm => no k (h.dis k hk) (h.md.lt k hk) hm, h.geS, hg.ge h.fr.size h.geT, hf.keep h.hb h.hT, h.hS, no _ h.hT hbl, h.ge, hf.keep h.qb h.qT, no _ h.qT hql, h.qh, hf.keep h.wb h.wT, no _ h.wT hwl, h.wh, ?_, h.fr.trans hf (fun k hk => Or.inr (h.geT k hk))⟩
  refine LFar.step h.tl (hf.mono (fun k hk => Or.inl (List.mem_cons_of_mem _ hk))) (fun k hk => ?_)
  rcases List.mem_cons.1 hk with rfl | hk
  · exact Or.inl (by simp)
  · exact (hg k hk).imp (fun h => List.mem_cons_of_mem _ h) id
/-- the round is over -/
theorem FmJ.done (h : FmJ w0 p g bh bq bw Q W v L M1 H a b c n w S T) (hH : H = M1.H) (ha : a = M1.seq) (hb : b = M1.H.rows.length) (hc : c = M1.H.hor) : FmI w0 p g bh M1 n w S T := by
  subst hH ha hb hc
  exact ⟨h.md, h.hs, h.ok, h.dis, h.geS, h.geT, h.hb, h.hS, h.hT, h.ge, h.fr⟩
end

theorem hd_sets (w : World) (b : Nat) (a0 a1 a2 : Value) : Fr [b] w (((w.setCell ⟨b, 0, none⟩ a0).setCell ⟨b, 1, none⟩ a1).setCell ⟨b, 2, none⟩ a2) := (((Fr.refl [b] w).setCell (p := ⟨b, 0, none⟩) (Or.inl (by simp)) a0).setCell (p := ⟨b, 1, none⟩) (Or.inl (by simp)) a1).setCell (p := ⟨b, 2, none⟩) (Or.inl (by simp)) a2
theorem hd_set {w : World} {b : Nat} {a0 a1 a2 : Int} (h : w.heap[b]? = some (hdO a0 a1 a2)) (x y z : Int) : (((w.setCell ⟨b, 0, none⟩ (.int .i64 x)).setCell ⟨b, 1, none⟩ (.int .i64 y)).setCell ⟨b, 2, none⟩ (.int .i64 z)).heap[b]? = some (hdO x y z) := by
  have h1 := set_block (set_block (set_block h 0 (.int .i64 x)) 1 (.int .i64 y)) 2 (.int .i64 z)
  exact h1
theorem neq_heads (a b c : Int) (X : World) : (binOp .neq 29 (.agg #[.int .i64 a, .int .i64 b, .int .i64 c]) (.agg #[.int .i64 a, .int .i64 b, .int .i64 c])).run Tryz.prog X = .ok (.bool false) X := by
  simp [go_sem]
theorem map_len {M : MA} {n : Nat} (h : MOk M n) : M.map.length ≤ 20 * n := Nat.le_trans (mapN_len _ _) h.hok.flat
end Go.Proofs.YtmipllkgioakoaaGreat
