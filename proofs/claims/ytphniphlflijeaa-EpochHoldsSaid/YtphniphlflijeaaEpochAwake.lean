/- CONTRACT OF impostlaw03.awake -/
import Derived.Test.YtphniphlflijeaaEpochDoAny
namespace Go.Proofs.Ytphniphlflijeaa
open Go.RowKit
set_option linter.unusedVariables false
set_option linter.unusedSimpArgs false

def aw1 : PA := ⟨0, [(true, 0), (false, 0)], [], 0⟩
def aw2 : PA := ⟨0, [(true, 0), (false, 0)], [(7, 0)], 1⟩
def aw3 : PA := ⟨1, [(true, 0), (false, 0)], [(7, 0)], 1⟩
def aw4 : PA := ⟨1, [(false, 0), (false, 0)], [(7, 0)], 1⟩
def aw5 : PA := ⟨2, [(false, 0), (false, 0)], [(7, 0)], 1⟩
def aw6 : PA := ⟨2, [(false, 0), (false, 0)], [], 1⟩
theorem aw1e : (PA.new 2).enter 0 = aw1 ∧ (PA.new 2).enterE 0 = 0 := ⟨by rfl, by rfl⟩
theorem aw2e : aw1.retire 7 = aw2 := by rfl
theorem aw3e : aw2.advance = aw3 ∧ aw2.ready = true := ⟨by rfl, by rfl⟩
theorem aw3f : aw3.advance = aw3 ∧ aw3.ready = false := ⟨by rfl, by rfl⟩
theorem aw3g : aw3.free = aw3 ∧ aw3.freed = [] := ⟨by rfl, by rfl⟩
theorem aw4e : aw3.exit 0 = aw4 ∧ aw3.exitE 0 = 0 := ⟨by rfl, by rfl⟩
theorem aw5e : aw4.advance = aw5 ∧ aw4.ready = true := ⟨by rfl, by rfl⟩
theorem aw6e : aw5.free = aw6 ∧ aw5.freed = [7] := ⟨by rfl, by rfl⟩
theorem aw0 : OkA (PA.new 2) 9 := (OkA.new 2 (by decide)).mono (by decide)
theorem aw1o : OkA aw1 9 := ⟨by decide, by decide, by decide, by decide, by decide, by decide, by decide⟩
theorem aw2o : OkA aw2 9 := ⟨by decide, by decide, by decide, by decide, by decide, by decide, by decide⟩
theorem aw3o : OkA aw3 9 := ⟨by decide, by decide, by decide, by decide, by decide, by decide, by decide⟩
theorem aw4o : OkA aw4 9 := ⟨by decide, by decide, by decide, by decide, by decide, by decide, by decide⟩
theorem aw5o : OkA aw5 9 := ⟨by decide, by decide, by decide, by decide, by decide, by decide, by decide⟩
theorem aw6o : OkA aw6 9 := ⟨by decide, by decide, by decide, by decide, by decide, by decide, by decide⟩
theorem own_free_none {w w1 : World} {p : Nat} {S : List Nat} {A A' : PA} {N : Int} (h : Own w p S A w1) (ho : OkA A N) (hN : N ≤ 100000) (hA : A.free = A' ∧ A.freed = []) :
    Calls Try.prog 16 #[.pointer (some ⟨p, 0, none⟩)] w1 fun e w' => ∃ s c, e = .returned (.slice s 0 c) ∧ Own w p S A' w' := by
  refine (own_free h ho hN).mono ?_
  rintro e w' ⟨s, c, he, hl, _, h⟩
  rw [hA.1] at h
  rw [hA.2] at he
  exact ⟨s, c, he, h⟩
theorem own_free_one {w w1 : World} {p : Nat} {S : List Nat} {A A' : PA} {N : Int} {x : Int} (h : Own w p S A w1) (ho : OkA A N) (hN : N ≤ 100000) (hA : A.free = A' ∧ A.freed = [x]) :
    Calls Try.prog 16 #[.pointer (some ⟨p, 0, none⟩)] w1 fun e w' => ∃ g o c, e = .returned (.slice (some ⟨g, o, none⟩) 1 c) ∧ 1 ≤ c ∧ w'.cell? ⟨g, o, none⟩ = some (.int .u64 x) ∧ Own w p S A' w' := by
  refine (own_free h ho hN).mono ?_
  rintro e w' ⟨s, c, he, hl, _, h⟩
  rw [hA.1] at h
  rw [hA.2] at he hl
  obtain ⟨g, o, c', hv, _, hc, hcells⟩ := hl.here (by simp)
  cases hv
  exact ⟨g, o, c, he, hc, by simpa using (hcells 0 (by simp)).1, h⟩

set_option maxHeartbeats 2000000 in
theorem epoch_awake (w : World) : Calls Try.prog 9 #[] w fun e w' => e = .returned (.bool true) ∧ Fr [] w w' := by
  go_enter Try.func9, Try.ntmps9
  go_wp2_with (go_at_call 10; refine (own_new (Fr.refl [] w) 2 (by decide) (by decide)).mono ?_; rintro e w1 ⟨p, S0, rfl, h1⟩; refine go_stop ?_)
  unfold Stop
  go_wp2_with (go_at_call 17; refine (own_enter h1 aw0 0).mono ?_; rintro e w2 ⟨rfl, S1, h2⟩; rw [aw1e.2]; rw [aw1e.1] at h2; refine go_stop ?_)
  clear h1
  unfold Stop
  go_wp2_with (go_at_call 18; refine (own_retire h2 aw1o (by decide) 7).mono ?_; rintro e w3 ⟨rfl, S2, h3⟩; rw [aw2e] at h3; refine go_stop ?_)
  clear h2
  unfold Stop
  go_wp2_with (go_at_call 20; refine (own_advance h3 aw2o (by decide)).mono ?_; rintro e w4 ⟨rfl, S3, h4⟩; rw [aw3e.2]; rw [aw3e.1] at h4; refine go_stop ?_)
  clear h3
  unfold Stop
  go_wp2_with (go_at_call 20; refine (own_advance h4 aw3o (by decide)).mono ?_; rintro e w5 ⟨rfl, S4, h5⟩; rw [aw3f.2]; rw [aw3f.1] at h5; refine go_stop ?_)
  clear h4
  unfold Stop
  go_wp2_with (go_at_call 16; refine (own_free_none h5 aw3o (by decide) aw3g).mono ?_; rintro e w6 ⟨s6, c6, rfl, h6⟩; refine go_stop ?_)
  clear h5
  unfold Stop
  go_wp2_with (go_at_call 19; refine (own_exit h6 aw3o 0).mono ?_; rintro e w7 ⟨rfl, S5, h7⟩; rw [aw4e.2]; rw [aw4e.1] at h7; refine go_stop ?_)
  clear h6
  unfold Stop
  go_wp2_with (go_at_call 20; refine (own_advance h7 aw4o (by decide)).mono ?_; rintro e w8 ⟨rfl, S6, h8⟩; rw [aw5e.2]; rw [aw5e.1] at h8; refine go_stop ?_)
  clear h7
  unfold Stop
  go_wp2_with (go_at_call 16; refine (own_free_one h8 aw5o (by decide) aw6e).mono ?_; rintro e w9 ⟨g9, o9, c9, rfl, hc9, hcell, h9⟩; refine go_stop ?_)
  clear h8
  have H9 := Lib.hid h9
  clear h9
  unfold Stop
  go_wp2_with (first | (go_at_call 13; refine (own_epoch H9.out).mono ?_; rintro e w10 ⟨rfl, rfl⟩) | (go_at_call 14; refine (own_left H9.out aw6o (by decide)).mono ?_; rintro e w11 ⟨rfl, hf⟩; have HF := Lib.hid hf; clear hf))
  go_ret
  exact ⟨rfl, H9.out.2.1.trans HF.out (by simp)⟩
end Go.Proofs.Ytphniphlflijeaa
