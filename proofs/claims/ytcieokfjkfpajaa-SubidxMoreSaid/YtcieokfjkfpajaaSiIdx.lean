/- PACKAGE subidx: an Index: how it lies; New, All, Stab; an Index that is nil: contracts -/
import Derived.Test.YtcieokfjkfpajaaSiAdd
import Derived.Test.YtcieokfjkfpajaaSiDro
import Derived.Test.YtcieokfjkfpajaaSiSort
import Derived.Test.YtcieokfjkfpajaaMapG
namespace Go.Proofs.Ytcieokfjkfpajaa
open Go.RowKit Go.Maps
set_option linter.unusedVariables false
set_option linter.unusedSimpArgs false

def isPt : Value → Bool
  | .pointer _ => true
  | _ => false
theorem SKI : KeyT Try.prog 3 intD := intT Try.underlying3
theorem nodes_map : Try.prog.underlying 53 = some (.map 3 54) := Try.underlying53
theorem zero_node (w : World) : (zeroValue 54).run Try.prog w = .ok (.pointer none) w := by kernel_rfl
def wf64 (z : Int) : Prop := (Lit.int .i64 z).wf = true
/-- an Index at p: its tree t, its map at mb -/
structure IxW (w : World) (p : Nat) (t : Tr) (mb n : Nat) (M : Int → Option Value) : Prop where
  blk : w.heap[p]? = some (.cells #[.pointer t.ptr, .map (some mb)] 56 (0, 0))
  tr : TrAt w t
  mp : MapG Try.prog 3 intD isPt w mb n M
  tell : ∀ x ∈ t.lst, M x.2.id = some (.pointer (some ⟨x.1, 0, none⟩))
  rest : ∀ z, (∀ x ∈ t.lst, x.2.id ≠ z) → M z = none
  pm : p ≠ mb
  pt : p ∉ t.blks
  mt : mb ∉ t.blks
  nd : t.blks.Nodup
  srt : SrtP t.lst
  ids : (t.subs.map (·.id)).Nodup
  wf : ∀ x ∈ t.lst, wf64 x.2.id
  len : t.lst.length ≤ n
/-- an Index at p of the watches L, all of its blocks among S, n times added to at most -/
def Ix (w : World) (p : Nat) (S : List Nat) (n : Nat) (L : List Sb) : Prop := ∃ t mb M, IxW w p t mb n M ∧ L = t.subs ∧ p ∈ S ∧ mb ∈ S ∧ (∀ k ∈ t.blks, k ∈ S) ∧ ∀ k ∈ S, k < w.heap.size
theorem IxW.keep {w w' : World} {S : List Nat} {p mb n : Nat} {t : Tr} {M : Int → Option Value} (h : IxW w p t mb n M) (hf : Fr S w w') (h1 : p ∉ S) (h2 : mb ∉ S) (h3 : ∀ k ∈ t.blks, k ∉ S) : IxW w' p t mb n M :=
  ⟨hf.keep h.blk h1, TrAt.keep hf h.tr h3, h.mp.keep hf h2, h.tell, h.rest, h.pm, h.pt, h.mt, h.nd, h.srt, h.ids, h.wf, h.len⟩
theorem Ix.keep {w w' : World} {S T : List Nat} {p n : Nat} {L : List Sb} (h : Ix w p S n L) (hf : Fr T w w') (hS : ∀ k ∈ S, k ∉ T) : Ix w' p S n L := by
  obtain ⟨t, mb, M, h, e, h1, h2, h3, h4⟩ := h
  exact ⟨t, mb, M, h.keep hf (hS p h1) (hS mb h2) (fun k hk => hS k (h3 k hk)), e, h1, h2, h3, fun k hk => Nat.lt_of_lt_of_le (h4 k hk) hf.size⟩
theorem Ix.keep0 {w w' : World} {S : List Nat} {p n : Nat} {L : List Sb} (h : Ix w p S n L) (hf : Fr [] w w') : Ix w' p S n L := h.keep hf (by simp)
theorem Ix.mono {w : World} {S : List Nat} {p n m : Nat} {L : List Sb} (h : Ix w p S n L) (hm : n ≤ m) : Ix w p S m L := by
  obtain ⟨t, mb, M, h, e, h1, h2, h3⟩ := h
  exact ⟨t, mb, M, ⟨h.blk, h.tr, h.mp.mono hm, h.tell, h.rest, h.pm, h.pt, h.mt, h.nd, h.srt, h.ids, h.wf, Nat.le_trans h.len hm⟩, e, h1, h2, h3⟩
theorem Ix.all_lt {w : World} {S : List Nat} {p n : Nat} {L : List Sb} (h : Ix w p S n L) : ∀ k ∈ S, k < w.heap.size := by
  obtain ⟨t, mb, M, h, e, h1, h2, h3, h4⟩ := h
  exact h4
theorem Ix.len {w : World} {S : List Nat} {p n : Nat} {L : List Sb} (h : Ix w p S n L) : L.length ≤ n := by
  obtain ⟨t, mb, M, h, rfl, _⟩ := h
  have := h.len
  unfold Tr.subs; simpa using this
theorem Ix.nodup {w : World} {S : List Nat} {p n : Nat} {L : List Sb} (h : Ix w p S n L) : (L.map (·.id)).Nodup := by
  obtain ⟨t, mb, M, h, rfl, _⟩ := h; exact h.ids
theorem Ix.srt {w : World} {S : List Nat} {p n : Nat} {L : List Sb} (h : Ix w p S n L) : SrtL L := by
  obtain ⟨t, mb, M, h, rfl, _⟩ := h
  unfold SrtL Tr.subs
  rw [List.pairwise_map]
  exact h.srt
theorem Ix.wf {w : World} {S : List Nat} {p n : Nat} {L : List Sb} (h : Ix w p S n L) : ∀ s ∈ L, wf64 s.id := by
  obtain ⟨t, mb, M, h, rfl, _⟩ := h
  intro s hs
  obtain ⟨x, hx, rfl⟩ := List.mem_map.1 hs
  exact h.wf x hx
theorem Ix.lt {w : World} {S : List Nat} {p n : Nat} {L : List Sb} (h : Ix w p S n L) : p < w.heap.size := by
  obtain ⟨t, mb, M, h, _⟩ := h; exact lt_of_block h.blk

theorem ix_new (w : World) : Calls Try.prog 10 #[] w fun e w' => ∃ p S, e = .returned (.pointer (some ⟨p, 0, none⟩)) ∧ Ix w' p S 0 [] ∧ Fr [] w w' ∧ (∀ k ∈ S, w.heap.size ≤ k) := by
  have hmm := @run_makeMap Try.prog
  have hb := new_block (w.alloc (.map #[] 0)) (.cells #[.pointer none, .map (some w.heap.size)] 56)
  have hs : (w.alloc (.map #[] 0)).heap.size = w.heap.size + 1 := by simp
  rw [hs] at hb
  have HB := Lib.hid hb
  have HM := Lib.hid ((MapG.made Try.prog 3 intD isPt w).keep ((Fr.refl [] (w.alloc (.map #[] 0))).alloc (.cells #[.pointer none, .map (some w.heap.size)] 56)) (by simp))
  clear hb hs
  go_enter Try.func10, Try.ntmps10
  go_wp2_with fail
  go_ret
  refine ⟨w.heap.size + 1, [w.heap.size + 1, w.heap.size], rfl, ⟨.nil, w.heap.size, _, ⟨HB.out, trivial, HM.out, by simp [Tr.lst], fun _ _ => rfl, by omega, by simp [Tr.blks, Tr.lst], by simp [Tr.blks, Tr.lst], by simp [Tr.blks, Tr.lst], by simp [Tr.lst, SrtP], by simp [Tr.subs, Tr.lst], by simp [Tr.lst], by simp [Tr.lst]⟩, rfl, by simp, by simp, by simp [Tr.blks, Tr.lst], ?_⟩, ((Fr.refl [] w).alloc _).alloc _, ?_⟩
  · intro k hk; simp at hk; simp; omega
  · intro k hk; simp at hk; omega
def stabS (k : Bs) (rev : Int) (L : List Sb) : List Int := sortI ((L.filter (Sb.want k rev)).map (·.id))
theorem ix_all {w : World} {p : Nat} {S : List Nat} {n : Nat} {L : List Sb} (h : Ix w p S n L) (hn : n ≤ 1000) : Calls Try.prog 12 #[.pointer (some ⟨p, 0, none⟩)] w fun e w' => ∃ v, e = .returned v ∧ OutAt Sb.cells 41 4 w w' v L ∧ Fr [] w w' := by
  obtain ⟨t, mb, M, h, rfl, _⟩ := h
  obtain ⟨c0, c1, _⟩ := cells2 h.blk
  have C := Lib.hid (si_gather t w w (.slice none 0 0) [] h.tr (Fr.refl [] w) (OutAt.nil _ _) (by have := h.len; simp only [List.length_nil]; omega))
  rw [List.nil_append] at C
  generalize t.ptr = tp at *
  clear h
  go_enter Try.func12, Try.ntmps12
  go_wp2_with (go_at_call 24; refine C.out.mono ?_; rintro e w1 ⟨v, rfl, ho, hf⟩; have HO := Lib.hid ho; have HF := Lib.hid hf; clear ho hf)
  go_ret
  exact ⟨_, rfl, HO.out, HF.out⟩
theorem ix_all_nil (w : World) : Calls Try.prog 12 #[.pointer none] w fun e w' => e = .returned (.slice none 0 0) ∧ w = w' := by
  go_enter Try.func12, Try.ntmps12
  go_wp2_with fail
  go_ret
  exact ⟨rfl, rfl⟩
theorem ix_stab {w : World} {p : Nat} {S : List Nat} {n : Nat} {L : List Sb} (h : Ix w p S n L) (hn : n ≤ 1000) (k : ByteArray) (rev : Int) : Calls Try.prog 14 #[.pointer (some ⟨p, 0, none⟩), .string k, .int .i64 rev] w fun e w' => ∃ v, e = .returned v ∧ OutAt inC 3 1 w w' v (stabS k.toList rev L) ∧ Fr [] w w' := by
  obtain ⟨t, mb, M, h, rfl, _⟩ := h
  obtain ⟨c0, c1, _⟩ := cells2 h.blk
  have C := Lib.hid (si_stab k rev t w w (.slice none 0 0) [] h.tr (Fr.refl [] w) (OutAt.nil _ _) (by have := h.len; simp only [List.length_nil]; omega))
  have hl := Tr.stab_len k.toList rev t
  have hl2 := h.len
  rw [List.nil_append] at C
  have e1 : stabS k.toList rev t.subs = sortI (t.stab k.toList rev) := by unfold stabS; rw [Tr.stab_eq]
  rw [e1]
  generalize t.stab k.toList rev = O at *
  have CS := Lib.hid fun (w1 : World) (v : Value) (ho : OutAt inC 3 1 w w1 v O) (hf : Fr [] w w1) => sort_own ho (by omega) hf
  generalize t.ptr = tp at *
  clear h e1 hl hl2
  go_enter Try.func14, Try.ntmps14
  go_wp2_with (go_at_call 25; refine C.out.mono ?_; rintro e w1 ⟨v, rfl, ho, hf⟩; refine go_stop ?_)
  have HO := Lib.hid ho
  have HF := Lib.hid hf
  obtain ⟨s1, c1', hv, _⟩ := ho.lies.form
  clear ho hf
  generalize O.length = ol at hv
  subst hv
  unfold Stop
  go_wp2_with (go_at_call 26; refine (CS.out _ _ HO.out HF.out).mono ?_; rintro e w2 ⟨rfl, ho, hf⟩; have HO2 := Lib.hid ho; have HF2 := Lib.hid hf; clear ho hf)
  go_ret
  exact ⟨_, rfl, HO2.out, HF2.out⟩
theorem ix_stab_nil (w : World) (k : ByteArray) (rev : Int) : Calls Try.prog 14 #[.pointer none, .string k, .int .i64 rev] w fun e w' => e = .returned (.slice none 0 0) ∧ w = w' := by
  go_enter Try.func14, Try.ntmps14
  go_wp2_with fail
  go_ret
  exact ⟨rfl, rfl⟩
theorem ix_del_nil (w : World) (id : Int) : Calls Try.prog 21 #[.pointer none, .int .i64 id] w fun e w' => e = .returned (.int .i64 1) ∧ w = w' := by
  go_enter Try.func21, Try.ntmps21
  go_wp2_with fail
  go_ret
  exact ⟨rfl, rfl⟩
theorem ix_add_nil (w : World) (s : Sb) : Calls Try.prog 19 #[.pointer none, s.val] w fun e w' => e = .returned (.int .i64 1) ∧ Fr [] w w' := by
  obtain ⟨si, sr, sf, st⟩ := s
  unfold Sb.val
  go_enter Try.func19, Try.ntmps19
  go_wp2_with fail
  go_ret
  exact ⟨rfl, (Fr.refl [] w).alloc _⟩
end Go.Proofs.Ytcieokfjkfpajaa
