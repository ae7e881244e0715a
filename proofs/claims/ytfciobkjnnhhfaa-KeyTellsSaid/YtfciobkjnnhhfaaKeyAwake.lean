/- THE EXAMPLE OF THE DOCUMENT -/
import Derived.Test.YtfciobkjnnhhfaaKey
import Derived.Deep.RegionHeld3
namespace Go.Proofs.Ytfciobkjnnhhfaa
open Go.RowKit
set_option linter.unusedVariables false
set_option linter.unusedSimpArgs false

theorem aw1 : prefS ⟨#[97, 255]⟩ = ⟨#[98]⟩ := by
  apply bs_inj; rw [prefS_list, ByteArray.toList_eq, ByteArray.toList_eq]; decide
theorem key_awake (w : World) : Calls Try.prog 9 #[] w fun e w' => e = .returned (.bool true) ∧ Fr [] w w' := by
  have m1 : meetR ⟨#[97]⟩ ⟨#[99]⟩ ⟨#[98]⟩ ⟨#[]⟩ = (⟨#[98]⟩, ⟨#[99]⟩, true) := by
    simp only [meetR, mF, mT, ByteArray.toList_eq]; decide
  have HP : Hid (∀ W, Calls Try.prog 22 #[.string ⟨#[97, 255]⟩] W fun e w' => e = .returned (.agg #[.string ⟨#[97, 255]⟩, .string ⟨#[98]⟩]) ∧ Fr [] W w') := Lib.hid (fun W => by have := key_prefix ⟨#[97, 255]⟩ W (by decide); rw [aw1] at this; exact this)
  have HM : Hid (∀ W, Calls Try.prog 18 #[.agg #[.string ⟨#[97]⟩, .string ⟨#[99]⟩], .agg #[.string ⟨#[98]⟩, .string ⟨#[]⟩]] W fun e w' => e = .returned (.tuple #[.agg #[.string ⟨#[98]⟩, .string ⟨#[99]⟩], .bool true]) ∧ Fr [] W w') := Lib.hid (fun W => by have := key_meet ⟨#[97]⟩ ⟨#[99]⟩ ⟨#[98]⟩ ⟨#[]⟩ W; rw [m1] at this; exact this)
  have HI : Hid (∀ W, Calls Try.prog 14 #[.agg #[.string ⟨#[98]⟩, .string ⟨#[99]⟩], .string ⟨#[98, 122]⟩] W fun e w' => e = .returned (.bool true) ∧ Fr [] W w') := Lib.hid (fun W => by
    have := key_in ⟨#[98]⟩ ⟨#[99]⟩ ⟨#[98, 122]⟩ W
    rw [show inB (ByteArray.toList ⟨#[98]⟩) (ByteArray.toList ⟨#[99]⟩) (ByteArray.toList ⟨#[98, 122]⟩) = true by simp only [ByteArray.toList_eq]; decide] at this; exact this)
  have HK : Hid (∀ W, Calls Try.prog 10 #[.string ⟨#[97]⟩] W fun e w' => e = .returned (.bool true) ∧ Fr [] W w') := Lib.hid (fun W => by
    have := key_may ⟨#[97]⟩ W (by decide)
    rw [show mayB (ByteArray.toList ⟨#[97]⟩) = true by simp only [ByteArray.toList_eq]; decide] at this; exact this)
  have HR : Hid (∀ W, Calls Try.prog 12 #[.agg #[.string ⟨#[98]⟩, .string ⟨#[99]⟩]] W fun e w' => e = .returned (.bool true) ∧ Fr [] W w') := Lib.hid (fun W => by
    have := key_mayrange ⟨#[98]⟩ ⟨#[99]⟩ W (by decide) (by decide)
    rw [show mayRangeB (ByteArray.toList ⟨#[98]⟩) (ByteArray.toList ⟨#[99]⟩) = true by simp only [ByteArray.toList_eq]; decide] at this; exact this)
  go_enter Try.func9, Try.ntmps9
  go_wp2_with (first
    | (go_at_call 22; refine (HP.out _).mono ?_; rintro e w1 ⟨rfl, h1⟩; have HF := Lib.hid h1; clear h1)
    | (go_at_call 18; refine (HM.out _).mono ?_; rintro e w2 ⟨rfl, h2⟩; refine go_stop ?_))
  unfold Stop
  have HX := h2.keep (new_block w1 _) (by simp)
  have hB := lt_of_block HX
  obtain ⟨a0, a1, af⟩ := cells2 (w := w2.alloc (Obj.cells #[.string ⟨#[98]⟩, .string ⟨#[99]⟩] 23)) ((Below.heap_alloc _ _ _ hB).trans HX)
  have HF := Lib.hid ((HF.out.alloc _).trans h2 (by simp))
  clear af h2 hB HX
  go_wp2_with (first
    | (go_at_call 14; refine (HI.out _).mono ?_; rintro e w3 ⟨rfl, h3⟩; have HB := Lib.hid (h3.keep (new_block w2 _) (by simp)); obtain ⟨b0, b1, bf⟩ := cells2 HB.out; have HF := Lib.hid ((HF.out.alloc _).trans h3 (by simp)); clear bf h3)
    | (go_at_call 10; refine (HK.out _).mono ?_; rintro e w4 ⟨rfl, h4⟩; obtain ⟨d0, d1, df⟩ := cells2 (h4.keep HB.out (by simp)); have HF := Lib.hid (HF.out.trans h4 (by simp)); clear df h4)
    | (go_at_call 12; refine (HR.out _).mono ?_; rintro e w5 ⟨rfl, h5⟩; have HF := Lib.hid (HF.out.trans h5 (by simp)); clear h5))
  go_ret
  exact ⟨rfl, HF.out⟩
end Go.Proofs.Ytfciobkjnnhhfaa
