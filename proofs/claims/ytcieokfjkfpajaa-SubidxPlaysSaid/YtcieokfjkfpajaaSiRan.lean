/- THE LAWS' HELPERS of layer 11: ran, awake: contracts -/
import Derived.Test.YtcieokfjkfpajaaSiDo
namespace Go.Proofs.Ytcieokfjkfpajaa
open Go.RowKit
set_option linter.unusedVariables false
set_option linter.unusedSimpArgs false

structure SdC (w : World) (g off : Nat) (x : Sd) : Prop where
  c0 : w.cell? ⟨g, off, none⟩ = some (.int .i64 x.kind)
  c1 : w.cell? ⟨g, off + 1, none⟩ = some (.int .i64 x.s.id)
  c2 : w.cell? ⟨g, off + 2, none⟩ = some (.int .i64 x.s.rev)
  c3 : w.cell? ⟨g, off + 3, none⟩ = some (.string x.s.f)
  c4 : w.cell? ⟨g, off + 4, none⟩ = some (.string x.s.t)
theorem SdC.keep {w w' : World} {g off : Nat} {x : Sd} {S : List Nat} (h : SdC w g off x) (hf : Fr S w w') (hg : g ∉ S) : SdC w' g off x :=
  ⟨hf.cell h.c0 hg, hf.cell h.c1 hg, hf.cell h.c2 hg, hf.cell h.c3 hg, hf.cell h.c4 hg⟩
/-- deeds that are read; their watches' numbers are such as may be -/
def SdIn (w : World) (v : Value) (l : List Sd) : Prop := LIn Sd.cells 5 w v l ∧ ∀ d ∈ l, wf64 d.s.id
theorem SdIn.keep0 {w w' : World} {v : Value} {l : List Sd} (h : SdIn w v l) (hf : Fr [] w w') : SdIn w' v l := ⟨LIn.keep0 h.1 hf, h.2⟩
theorem SdIn.here {w : World} {v : Value} {l : List Sd} (h : SdIn w v l) (hn : 0 < l.length) : ∃ g off c, v = .slice (some ⟨g, off, none⟩) l.length c ∧ g < w.heap.size ∧ l.length ≤ c ∧ ∀ i x, l[i]? = some x → SdC w g (off + i * 5) x := by
  obtain ⟨g, off, c, hv, h1, h2, h3⟩ := LIn.here h.1 hn
  refine ⟨g, off, c, hv, h1, h2, fun i x hx => ?_⟩
  have q := h3 i x hx
  have e0 := q 0 (by decide)
  have e1 := q 1 (by decide)
  have e2 := q 2 (by decide)
  have e3 := q 3 (by decide)
  have e4 := q 4 (by decide)
  rw [← Nat.add_assoc] at e0 e1 e2 e3 e4
  exact ⟨e0, e1, e2, e3, e4⟩
theorem run_snoc (l : List Sd) (d : Sd) : runL (l ++ [d]) = Sd.step (runL l) d := by unfold runL; rw [List.foldl_append]; rfl
set_option maxHeartbeats 2000000 in
theorem si_ran (lv : Value) (l : List Sd) (w : World) (hl : SdIn w lv l) : Calls Try.prog 17 #[lv] w fun e w' => ∃ p S, e = .returned (.pointer (some ⟨p, 0, none⟩)) ∧ Ix w' p S 60 (runL (l.take 60)) ∧ Fr [] w w' ∧ ∀ k ∈ S, w.heap.size ≤ k := by
  obtain ⟨s1, c1, rfl, la, ma⟩ := hl.1.form
  unfold maxLen at ma
  have HL := Lib.hid hl
  have HN := Lib.hid fun W => ix_new W
  clear hl
  go_enter Try.func17, Try.ntmps17
  go_wp2_with (go_at_call 10; refine (HN.out _).mono ?_; rintro e w1 ⟨p, S0, rfl, hx, hf, hge⟩; refine go_stop ?_)
  have HX := Lib.hid hx
  have HF := Lib.hid hf
  have HGE := Lib.hid hge
  clear hx hf hge HN
  unfold Stop
  go_upto_region 4 with fail
  go_loopw [4, 5] (fun lv2 iv wr => ∃ (j : Nat) (S : List Nat), iv = .int .i64 j ∧ j ≤ l.length ∧ j ≤ 60 ∧ LFar S Sb.cells 4 wr lv2 (runL (l.take j)) ∧ Ix wr p S j (runL (l.take j)) ∧ (∀ k ∈ S, w.heap.size ≤ k) ∧ Fr [] w wr) (fun _ i _ => 60 - (intOf i).toNat)
  case atStart => exact ⟨0, S0, rfl, Nat.zero_le _, by omega, LFar.nil _ _, HX.out, HGE.out, HF.out⟩
  case round =>
    obtain ⟨j, S, rfl, hj, hj2, hlf, hx, hge, hf⟩ := hrel
    have HLF := Lib.hid hlf
    have HX2 := Lib.hid hx
    have HGE2 := Lib.hid hge
    have HF2 := Lib.hid hf
    clear hx hge hf
    by_cases h : j < l.length
    · have t1 : decide (j < l.length) = true := by simpa using h
      by_cases h60 : j < 60
      · have t2 : decide (j < 60) = true := by simpa using h60
        have t3 : decide ((j : Int) < 60) = true := by simp; omega
        obtain ⟨d, hd⟩ : ∃ d, l[j]? = some d := ⟨_, List.getElem?_eq_getElem h⟩
        obtain ⟨g, off, d1, e1, hg, l1, k1⟩ := SdIn.here (HL.out) (by omega)
        simp only [Value.slice.injEq] at e1
        obtain ⟨rfl, _, rfl⟩ := e1
        obtain ⟨q0, q1, q2, q3, q4⟩ := (k1 j d hd).keep HF2.out (by simp)
        have HTK := Lib.hid (take_snoc hd)
        have HRS := Lib.hid (run_snoc (l.take j) d)
        obtain ⟨s4, c4, rfl, _⟩ := hlf.form
        have HD := Lib.hid (si_do HX2.out (by omega) _ HLF.out d (HL.out.2 d (List.mem_of_getElem? hd)))
        rw [← HTK.out] at HRS
        rw [← HRS.out] at HD
        unfold Sd.val at HD
        generalize (runL (l.take j)).length = m at *
        clear k1 hg hd hlf
        go_wp2_with (go_at_call 11; refine HD.out.mono ?_; rintro e w3 ⟨v3, S3, rfl, hl3, hx3, hf3, hg3⟩; refine go_stop ?_)
        have HL3 := Lib.hid hl3
        have HX3 := Lib.hid hx3
        have HF3 := Lib.hid (HF2.out.trans hf3 (fun k hk => Or.inr (HGE2.out k hk)))
        have HG3 := Lib.hid (Grow.ge hg3 HF2.out.size HGE2.out)
        clear hl3 hx3 hf3 hg3 q0 q1 q2 q3 q4
        unfold Stop
        go_wp2_with fail
        go_roundw
        case rel => exact ⟨j + 1, S3, by go_num, by omega, by omega, HL3.out, HX3.out, HG3.out, HF3.out⟩
        case measure => simp [intOf]; omega
      · have t2 : decide (j < 60) = false := by simpa using h60
        have t3 : decide ((j : Int) < 60) = false := by simp; omega
        have hj60 : j = 60 := by omega
        have HJ := Lib.hid hj60
        clear hj60 hlf
        go_wp2_with fail
        go_ret
        exact ⟨p, S, rfl, by have := HX2.out; rw [HJ.out] at this; exact this, HF2.out, HGE2.out⟩
    · have t1 : decide (j < l.length) = false := by simpa using h
      have hj60 : l.take j = l.take 60 := by rw [List.take_of_length_le (by omega), List.take_of_length_le (by omega)]
      have HJ := Lib.hid hj60
      clear hj60 hlf
      go_wp2_with fail
      go_ret
      exact ⟨p, S, rfl, by have := HX2.out; rw [HJ.out] at this; exact this.mono hj2, HF2.out, HGE2.out⟩
end Go.Proofs.Ytcieokfjkfpajaa
