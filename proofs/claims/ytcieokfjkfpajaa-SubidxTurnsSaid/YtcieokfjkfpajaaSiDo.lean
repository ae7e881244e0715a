/- THE LAWS' HELPERS of layer 11: made, do, ran: contracts -/
import Derived.Test.YtcieokfjkfpajaaSiRef2
import Derived.Test.YtcieokfjkfpajaaSiRef3
namespace Go.Proofs.Ytcieokfjkfpajaa
open Go.RowKit
set_option linter.unusedVariables false
set_option linter.unusedSimpArgs false

theorem si_made (s : Sb) (w : World) : Calls Try.prog 16 #[s.val] w fun e w' => e = .returned s.val ∧ Fr [] w w' := by
  obtain ⟨si, sr, sf, st⟩ := s
  unfold Sb.val
  go_enter Try.func16, Try.ntmps16
  go_wp2_with fail
  refine bodyPost_ret (v := .agg #[.int .i64 si, .int .i64 sr, .string sf, .string st]) (by simp [results, Try.results16, go_sem, *]) rfl ⟨rfl, ?_⟩
  first | (with_reducible (repeat (first | exact Fr.refl _ _ | refine Fr.drew ?_ | refine Fr.alloc ?_ _))) | exact ((Fr.refl [] w).alloc _).set4 (Nat.le_refl _) _ _ _ _
/-- something that is done -/
structure Sd where
  kind : Int
  s : Sb
def Sd.cells (d : Sd) : List Value := [.int .i64 d.kind, .int .i64 d.s.id, .int .i64 d.s.rev, .string d.s.f, .string d.s.t]
def Sd.val (d : Sd) : Value := .agg #[.int .i64 d.kind, .int .i64 d.s.id, .int .i64 d.s.rev, .string d.s.f, .string d.s.t]
theorem Sd.clen (d : Sd) : d.cells.length = 5 := rfl
def Sd.step (L : List Sb) (d : Sd) : List Sb := if d.kind = 1 then addL L d.s else delL L d.s.id
def runL (l : List Sd) : List Sb := l.foldl Sd.step []
/-- what a deed leaves -/
def DoneI (w : World) (p : Nat) (S : List Nat) (n : Nat) (L : List Sb) (e : Ending) (w' : World) : Prop :=
  ∃ v' S', e = .returned (.tuple #[v', .bool true]) ∧ LFar S' Sb.cells 4 w' v' L ∧ Ix w' p S' n L ∧ Fr S w w' ∧ Grow S S' w
set_option maxHeartbeats 1000000 in
theorem si_do {w : World} {p : Nat} {S : List Nat} {n : Nat} {L : List Sb} (h : Ix w p S n L) (hn : n < 1000) (lv : Value) (hl : LFar S Sb.cells 4 w lv L) (d : Sd) (hw : wf64 d.s.id) :
    Calls Try.prog 11 #[.pointer (some ⟨p, 0, none⟩), lv, d.val] w (DoneI w p S (n + 1) (Sd.step L d)) := by
  obtain ⟨s1, c1, rfl, la, ma⟩ := hl.form
  have HX := Lib.hid h
  have HL := Lib.hid hl
  have HM := Lib.hid fun W => si_made d.s W
  have HWF := Lib.hid hw
  have hlen := h.len
  obtain ⟨kind, s⟩ := d
  dsimp only at *
  have hbx : ∀ S' w1, Fr S' (w.alloc (Obj.cells #[.int .i64 kind, .int .i64 s.id, .int .i64 s.rev, .string s.f, .string s.t] 34)) w1 → (∀ k ∈ S', k < w.heap.size) → w1.heap[w.heap.size]? = some (.cells #[.int .i64 kind, .int .i64 s.id, .int .i64 s.rev, .string s.f, .string s.t] 34 (0, 0)) := fun S' w1 h1 h2 => h1.keep (new_block w _) (fun hk => by have := h2 _ hk; omega)
  have HBX := Lib.hid hbx
  clear h hl hw hbx ma
  by_cases hk : kind = 1
  · subst hk
    have e1 : Sd.step L ⟨1, s⟩ = addL L s := by unfold Sd.step; rw [if_pos rfl]
    rw [e1]
    unfold Sd.val
    dsimp only at *
    have CA := Lib.hid fun (w1 : World) (hf : Fr [] w w1) => ix_add (HX.out.keep0 hf) hn s HWF.out
    have CR := Lib.hid fun (w2 : World) (S' : List Nat) (h1 : LFar S' Sb.cells 4 w2 (.slice s1 L.length c1) L) (h2 : ∀ k ∈ S', k < w2.heap.size) => rsi_add _ L s S' w2 h1 h2 (by omega)
    generalize addE L s = E at *
    generalize addL L s = L2 at *
    obtain ⟨si, sr, sf, st⟩ := s
    unfold Sb.val at *
    dsimp only at *
    clear e1
    go_enter Try.func11, Try.ntmps11
    go_wp2_with (go_at_call 16; refine (HM.out _).mono ?_; rintro e w1 ⟨rfl, hf1⟩; refine go_stop ?_)
    have HB1 := Lib.hid (HBX.out [] w1 hf1 (by simp))
    have HF1 := Lib.hid (((Fr.refl [] w).alloc _).trans hf1 (by simp))
    clear hf1 HBX HM
    unfold Stop
    go_wp2_with (go_at_call 19; refine (CA.out _ HF1.out).mono ?_; rintro e w2 ⟨rfl, S', hx2, hf2, hg2, hs2⟩; refine go_stop ?_)
    have HX2 := Lib.hid hx2
    have HF2 := Lib.hid hf2
    have HG2 := Lib.hid hg2
    have HL2 := Lib.hid (LFar.step (HL.out.keep0 HF1.out) hf2 hg2)
    obtain ⟨x0, x1, x2, x3, x4, _⟩ := cells5 (hf2.keep HB1.out (fun hk => by have := HX.out.all_lt _ hk; omega))
    clear hx2 hf2 hg2 hs2 CA
    unfold Stop
    go_wp2_with (go_at_call 22; refine (CR.out _ _ HL2.out HX2.out.all_lt).mono ?_; rintro e w3 ⟨v3, rfl, hl3, hf3⟩; refine go_stop ?_)
    obtain ⟨s3, c3, rfl, _⟩ := hl3.form
    have HL3 := Lib.hid hl3
    have HF3 := Lib.hid hf3
    clear hl3 hf3 x0 x1 x2 x3 x4
    generalize L2.length = m at *
    unfold Stop
    go_wp2_with fail
    refine bodyPost_ret (v := .tuple #[.slice s3 m c3, .bool true]) (by simp [results, Try.results11, go_sem]) rfl ?_
    refine ⟨_, S', rfl, HL3.out, HX2.out.keep0 HF3.out, ?_, fun k hk => (HG2.out k hk).imp id (fun h => Nat.le_trans HF1.out.size h)⟩
    exact ((HF1.out.mono (by simp)).trans HF2.out (fun k hk => Or.inl hk)).trans HF3.out (by simp)
  · have e1 : Sd.step L ⟨kind, s⟩ = delL L s.id := by unfold Sd.step; rw [if_neg hk]
    rw [e1]
    have t1 : (kind == 1) = false := by simpa using hk
    unfold Sd.val
    dsimp only at *
    have CA := Lib.hid fun (w1 : World) (hf : Fr [] w w1) => ix_del (HX.out.keep0 hf) (by omega) s.id HWF.out
    have CR := Lib.hid fun (w2 : World) (S' : List Nat) (h1 : LFar S' Sb.cells 4 w2 (.slice s1 L.length c1) L) (h2 : ∀ k ∈ S', k < w2.heap.size) => rsi_del _ L s.id S' w2 h1 h2 (by omega)
    generalize delE L s.id = E at *
    generalize delL L s.id = L2 at *
    obtain ⟨si, sr, sf, st⟩ := s
    dsimp only at *
    clear e1 HM hk
    go_enter Try.func11, Try.ntmps11
    go_wp2_with (go_at_call 21; refine (CA.out _ ((Fr.refl [] w).alloc _)).mono ?_; rintro e w2 ⟨rfl, S', hx2, hf2, hg2, hs2⟩; refine go_stop ?_)
    have HX2 := Lib.hid hx2
    have HF2 := Lib.hid hf2
    have HG2 := Lib.hid hg2
    have HL2 := Lib.hid (LFar.step (HL.out.keep0 ((Fr.refl [] w).alloc _)) hf2 hg2)
    obtain ⟨x0, x1, x2, x3, x4, _⟩ := cells5 (HBX.out S w2 hf2 HX.out.all_lt)
    clear hx2 hf2 hg2 hs2 CA
    unfold Stop
    go_wp2_with (go_at_call 23; refine (CR.out _ _ HL2.out HX2.out.all_lt).mono ?_; rintro e w3 ⟨v3, rfl, hl3, hf3⟩; refine go_stop ?_)
    obtain ⟨s3, c3, rfl, _⟩ := hl3.form
    have HL3 := Lib.hid hl3
    have HF3 := Lib.hid hf3
    clear hl3 hf3 x0 x1 x2 x3 x4
    generalize L2.length = m at *
    unfold Stop
    go_wp2_with fail
    refine bodyPost_ret (v := .tuple #[.slice s3 m c3, .bool true]) (by simp [results, Try.results11, go_sem]) rfl ?_
    refine ⟨_, S', rfl, HL3.out, (HX2.out.keep0 HF3.out).mono (by omega), ?_, fun k hk => (HG2.out k hk).imp id (fun h => by simp at h; omega)⟩
    exact ((((Fr.refl [] w).alloc _).mono (by simp)).trans HF2.out (fun k hk => Or.inl hk)).trans HF3.out (by simp)
end Go.Proofs.Ytcieokfjkfpajaa
