/- What is retired while a thread is inside is not free as long as that thread stays inside: for every two lists of deeds and every byte. No condition. -/
import Derived.Test.YtphniphlflijeaaEpochHist
namespace Go.Proofs.Ytphniphlflijeaa.lawEpochHolds
open Go.ChangeShapes Go.WideShapes Go.ChangeAt Go.RowKit Go.Deep
set_option linter.unusedVariables false
set_option linter.unusedSimpArgs false

/-- no deed of the first ones has the word m -/
def NoM (w : World) (a : Option Addr) (n : Nat) (m : Int) : Prop := ∀ b off i x, a = some ⟨b, off, none⟩ → i < n → w.cell? ⟨b, off + i * 3 + 2, none⟩ = some (.int .u64 x) → x ≠ m
theorem NoM.told {w w1 : World} {a : Option Addr} {len cap : Nat} {m x : Int} (h : NoM w a len m) (hd : EDeeds w a len cap) (hf : Fr [] w w1) (ht : Told w1 a len x) : x ≠ m := by
  obtain ⟨b, off, i, ha, hi, hc⟩ := ht
  obtain ⟨b', off', ha', _, hcells⟩ := hd.2.2 (by omega)
  rw [ha] at ha'
  simp only [Option.some.injEq, Addr.mk.injEq, and_true] at ha'
  obtain ⟨rfl, rfl⟩ := ha'
  obtain ⟨_, _, y, _, _, hy⟩ := hcells i hi
  have h1 := hf.cell hy (by simp)
  rw [hc] at h1
  simp only [Option.some.injEq, Value.int.injEq, true_and] at h1
  subst h1
  exact h b off i x ha hi hy

set_option maxRecDepth 100000 in
set_option maxHeartbeats 6000000 in
theorem walk (a0 : Option Addr) (len0 cap0 : Nat) (a1 : Option Addr) (len1 cap1 : Nat) (t : Int) (w : World) (w0 : EDeeds w a0 len0 cap0) (w1 : EDeeds w a1 len1 cap1) (wt : (Lit.int .u8 t).wf = true) :
    Calls Try.prog 4 #[.slice a0 len0 cap0, .slice a1 len1 cap1, .int .u8 t] w fun e w' => e = .returned (.bool true) ∧ Below w.heap.size w w' := by
  have HD0 := Lib.hid w0
  have HD1 := Lib.hid w1
  have hm : len1 ≤ 9223372036854775807 := by have := w1.1; have := w1.2.1; unfold maxLen at this; omega
  have hm0 : len0 ≤ 9223372036854775807 := by have := w0.1; have := w0.2.1; unfold maxLen at this; omega
  obtain ⟨n0, n1⟩ := ewf_byte wt
  obtain ⟨q, hq⟩ : ∃ q : Nat, (q : Int) = t % 4 := ⟨(t % 4).toNat, by omega⟩
  have hq4 : q < 4 := by omega
  have HQ := Lib.hid hq
  clear w0 w1 wt hq
  go_enter Try.func4, Try.ntmps4
  go_wp2_with (first | (go_at_call 9; refine (epoch_awake _).mono ?_; rintro e w1 ⟨rfl, h1⟩; have HA := Lib.hid h1; clear h1) | (go_at_call 15; refine (eran_any _ _ _ _ (HD0.out.keep HA.out)).mono ?_; rintro e w2 ⟨p, S, A, rfl, h2, hA2, hX2⟩; refine go_stop ?_))
  have h2 : Own w p S A w2 := ⟨h2.1, HA.out.trans h2.2.1 (by simp), fun k hk => Nat.le_trans HA.out.size (h2.2.2 k hk)⟩
  have H2 := Lib.hid h2
  have HA2 := Lib.hid hA2
  have HX2 := Lib.hid hX2
  clear h2 hA2 hX2
  unfold Stop
  go_wp2_with fail
  go_loopw [10] (fun i wr => ∃ (j : Nat), i = .int .i64 j ∧ j ≤ len0 ∧ NoM w a0 j 1152921504606846976 ∧ Own w p S A wr) (fun i _ => len0 - (intOf i).toNat)
  case atStart => exact ⟨0, rfl, Nat.zero_le _, fun b off i x _ hi => by omega, H2.out⟩
  case round =>
    obtain ⟨j, rfl, hj, hN, hO⟩ := hrel
    have HN := Lib.hid hN
    have HO := Lib.hid hO
    by_cases hlt : j < len0
    · have ht1 : decide (j < len0) = true := by simpa using hlt
      obtain ⟨b, off, rfl, hbw, hcells⟩ := HD0.out.2.2 (by omega)
      obtain ⟨kind, u, x, d0, d1, d2⟩ := hcells j hlt
      have c2 := hO.2.1.cell d2 (by simp)
      have HC2 := Lib.hid d2
      clear hN hO hcells d0 d1 d2
      by_cases hx : x = 1152921504606846976
      · subst hx
        go_wp2
        go_ret
        exact ⟨rfl, HO.out.2.1.below (Nat.le_refl _) (by simp)⟩
      · have k1 : (x == 1152921504606846976) = false := by simpa using hx
        have HX := Lib.hid hx
        clear hx
        go_wp2
        go_roundw
        case rel =>
          refine ⟨j + 1, by go_num, by omega, ?_, HO.out⟩
          intro b' off' i y ha hi hc
          simp only [Option.some.injEq, Addr.mk.injEq, and_true] at ha
          obtain ⟨rfl, rfl⟩ := ha
          by_cases hij : i = j
          · subst hij
            have h1 := HC2.out
            rw [hc] at h1
            simp only [Option.some.injEq, Value.int.injEq, true_and] at h1
            subst h1
            exact HX.out
          · exact HN.out b off i y rfl (by omega) hc
        case measure => simp [intOf]; omega
    · obtain rfl : j = len0 := by omega
      have ht1 : decide (j < j) = false := by simp
      have hrows : ∀ y ∈ A.free.row, y.1 ≠ 1152921504606846976 := fun y hy => hN.told HD0.out HA.out (HX2.out.told y (List.mem_filter.1 hy).1)
      have hfour : A.free.th.length = 4 := HX2.out.four
      obtain ⟨s, hK, hep, hrow⟩ := Keeps.enter (A := A.free) HX2.out.near (q := q) (by omega)
      rw [← hrow] at hrows
      have HHELD : Hid (Held ((A.free.enter (t % 4)).retire 1152921504606846976) q s 1152921504606846976) := Lib.hid (by rw [← HQ.out]; exact Held.start hK hrows)
      have HC1 := Lib.hid (own_free hO HA2.out (by omega))
      clear hN hO hrows hK hep hrow
      go_wp2_with (go_at_call 16; refine HC1.out.mono ?_; rintro e w3 ⟨fs, fc, rfl, _, _, h3⟩; refine go_stop ?_)
      unfold Stop
      go_wp2_with (go_at_call 17; refine (own_enter h3 HA2.out.free (t % 4)).mono ?_; rintro e w4 ⟨rfl, S4, h4⟩; refine go_stop ?_)
      clear h3
      unfold Stop
      go_wp2_with (go_at_call 18; refine (own_retire h4 (HA2.out.free.enter (t % 4)) (by omega) 1152921504606846976).mono ?_; rintro e w5 ⟨rfl, S5, h5⟩; refine go_stop ?_)
      clear h4
      have H5 := Lib.hid h5
      clear h5
      unfold Stop
      go_wp2_with fail
      go_loopw [11] (fun i wr => ∃ (j : Nat) (S : List Nat) (B : PA), i = .int .i64 j ∧ j ≤ len1 ∧ j ≤ 80 ∧ Own w p S B wr ∧ OkA B (81 + (j : Int)) ∧ Held B q s 1152921504606846976) (fun i _ => 80 - (intOf i).toNat)
      case atStart => exact ⟨0, _, _, rfl, Nat.zero_le _, Nat.zero_le _, H5.out, ((HA2.out.free.enter (t % 4)).retire 1152921504606846976).mono (by omega), HHELD.out⟩
      case round =>
        obtain ⟨j, S, B, rfl, hj, hj80, hO, hA, hH⟩ := hrel
        have HOW := Lib.hid hO
        have HOK := Lib.hid hA
        by_cases hgo : j < len1 ∧ j < 80
        · obtain ⟨hlt, hlt80⟩ := hgo
          have ht1 : decide (j < len1) = true := by simpa using hlt
          have ht2 : decide ((j : Int) < 80) = true := by simp; omega
          obtain ⟨b, off, rfl, hbw, hcells⟩ := HD1.out.2.2 (by omega)
          obtain ⟨kind, u, x, d0, d1, d2⟩ := hcells j hlt
          have c0 := hO.2.1.cell d0 (by simp)
          have c1 := hO.2.1.cell d1 (by simp)
          have c2 := hO.2.1.cell d2 (by simp)
          have HD0' := Lib.hid d0
          have HD1' := Lib.hid d1
          have HD2' := Lib.hid d2
          clear d0 d1 d2 hcells
          have HNS : Hid (wr.heap.size ∉ S) := Lib.hid (fun h => by have := hO.1.lt _ h; omega)
          by_cases hx : x = 1152921504606846976
          · subst hx
            have HHE := Lib.hid hH
            clear hO hA hH
            by_cases hk : kind = 2
            · subst hk
              by_cases hu : u = t % 4
              · subst hu
                go_wp2
                go_roundw
                case rel => exact ⟨j + 1, S, B, by go_num, by omega, by omega, HOW.out.keep ((Fr.refl [] wr).alloc _), HOK.out.mono (by omega), HHE.out⟩
                case measure => simp [intOf]; omega

              · have k2 : (u == t % 4) = false := by simpa using hu
                clear hu
                go_wp2
                go_roundw
                case rel => exact ⟨j + 1, S, B, by go_num, by omega, by omega, HOW.out.keep ((Fr.refl [] wr).alloc _), HOK.out.mono (by omega), HHE.out⟩
                case measure => simp [intOf]; omega

            · have k1 : (kind == 2) = false := by simpa using hk
              clear hk
              go_wp2
              go_roundw
              case rel => exact ⟨j + 1, S, B, by go_num, by omega, by omega, HOW.out.keep ((Fr.refl [] wr).alloc _), HOK.out.mono (by omega), HHE.out⟩
              case measure => simp [intOf]; omega

          · have k3 : (x == 1152921504606846976) = false := by simpa using hx
            by_cases hk : kind = 2
            · subst hk
              by_cases hu : u = t % 4
              · subst hu
                have HHE := Lib.hid hH
                clear hO hA hH hx
                go_wp2
                go_roundw
                case rel => exact ⟨j + 1, S, B, by go_num, by omega, by omega, HOW.out.keep ((Fr.refl [] wr).alloc _), HOK.out.mono (by omega), HHE.out⟩
                case measure => simp [intOf]; omega

              · have k2 : (u == t % 4) = false := by simpa using hu
                have HAD := Lib.hid (hA.deed 2 u x)
                have HHD := Lib.hid (hH.deed 2 u x (Or.inr (by have := HQ.out; omega)) hx)
                clear hO hA hH hx hu
                go_wp2_with fail
                go_region_held3 (fun w' => w'.cell? ⟨wr.heap.size, 0, none⟩ = some (.int .i64 2) ∧ w'.cell? ⟨wr.heap.size, 1, none⟩ = some (.int .i64 u) ∧ w'.cell? ⟨wr.heap.size, 2, none⟩ = some (.int .u64 x)) (go_keep)
                  (first
                    | (go_at_call 11; refine (rnew_any _ 4 (by decide)).mono ?_; rintro e w5 ⟨V, rfl, hr5, hf5⟩
                       have hfw : Fr [] wr w5 := (((Fr.refl [] wr).alloc _).drew).trans hf5 (by simp)
                       have hb5 := hf5.keep (p := wr.heap.size) (o := .cells #[.int .i64 2, .int .i64 u, .int .u64 x] 35) (by exact new_block wr _) (by simp)
                       obtain ⟨g0, g1, g2, _⟩ := cells3 hb5
                       have HB5 := Lib.hid hb5
                       clear hb5
                       have HR5 := Lib.hid hr5
                       have HF5 := Lib.hid hfw
                       clear hr5 hf5 hfw)
                    | (go_at_call 12; refine (own_do HOW.out HOK.out (by omega) HR5.out HF5.out 2 u x).mono ?_; rintro e w6 ⟨V6, b6, S6, rfl, h6, hf6⟩
                       have hb6 := hf6.keep HB5.out HNS.out
                       obtain ⟨y0, y1, y2, _⟩ := cells3 hb6
                       clear hb6
                       have H6 := Lib.hid h6
                       clear h6 hf6))
                go_wp2
                go_roundw
                case rel => exact ⟨j + 1, S6, _, by go_num, by omega, by omega, H6.out, HAD.out.mono (by omega), HHD.out⟩
                case measure => simp [intOf]; omega

            · have k1 : (kind == 2) = false := by simpa using hk
              by_cases h1 : 1 ≤ kind
              · have t1 : decide (1 ≤ kind) = true := by simpa using h1
                by_cases h4 : kind ≤ 4
                · have t4 : decide (kind ≤ 4) = true := by simpa using h4
                  have HAD := Lib.hid (hA.deed kind u x)
                  have HHD := Lib.hid (hH.deed kind u x (Or.inl hk) hx)
                  clear hO hA hH hx hk h1 h4
                  go_wp2_with fail
                  go_region_held3 (fun w' => w'.cell? ⟨wr.heap.size, 0, none⟩ = some (.int .i64 kind) ∧ w'.cell? ⟨wr.heap.size, 1, none⟩ = some (.int .i64 u) ∧ w'.cell? ⟨wr.heap.size, 2, none⟩ = some (.int .u64 x)) (go_keep)
                    (first
                      | (go_at_call 11; refine (rnew_any _ 4 (by decide)).mono ?_; rintro e w5 ⟨V, rfl, hr5, hf5⟩
                         have hfw : Fr [] wr w5 := (((Fr.refl [] wr).alloc _).drew).trans hf5 (by simp)
                         have hb5 := hf5.keep (p := wr.heap.size) (o := .cells #[.int .i64 kind, .int .i64 u, .int .u64 x] 35) (by exact new_block wr _) (by simp)
                         obtain ⟨g0, g1, g2, _⟩ := cells3 hb5
                         have HB5 := Lib.hid hb5
                         clear hb5
                         have HR5 := Lib.hid hr5
                         have HF5 := Lib.hid hfw
                         clear hr5 hf5 hfw)
                      | (go_at_call 12; refine (own_do HOW.out HOK.out (by omega) HR5.out HF5.out kind u x).mono ?_; rintro e w6 ⟨V6, b6, S6, rfl, h6, hf6⟩
                         have hb6 := hf6.keep HB5.out HNS.out
                         obtain ⟨y0, y1, y2, _⟩ := cells3 hb6
                         clear hb6
                         have H6 := Lib.hid h6
                         clear h6 hf6))
                  go_wp2
                  go_roundw
                  case rel => exact ⟨j + 1, S6, _, by go_num, by omega, by omega, H6.out, HAD.out.mono (by omega), HHD.out⟩
                  case measure => simp [intOf]; omega

                · have t4 : decide (kind ≤ 4) = false := by simpa using h4
                  have HHE := Lib.hid hH
                  clear hO hA hH hx hk h1 h4
                  have HC := Lib.hid (own_free (HOW.out.keep ((Fr.refl [] wr).alloc (.cells #[.int .i64 kind, .int .i64 u, .int .u64 x] 35))) HOK.out (by omega))
                  have HHF := Lib.hid HHE.out.freed
                  have HHD := Lib.hid (show Held B.free q s 1152921504606846976 from by have h := HHE.out.deed 0 0 0 (Or.inl (by decide)) (by decide); simpa [PA.deed] using h)
                  go_wp2_with (go_at_call 16; refine HC.out.mono ?_; rintro e w3 ⟨fs, fc, rfl, hl3, _, h3⟩; refine go_stop ?_)
                  have HL3 := Lib.hid hl3
                  have H3 := Lib.hid h3
                  have hfm : B.freed.length ≤ 9223372036854775807 := by obtain ⟨_, _, hv, h5, h6⟩ := hl3.form; unfold maxLen at h6; omega
                  clear hl3 h3
                  unfold Stop
                  go_wp2_with fail
                  go_loopw [14] (fun i wr => ∃ (m : Nat), i = .int .i64 m ∧ m ≤ B.freed.length ∧ Fr [] w3 wr) (fun i _ => B.freed.length - (intOf i).toNat)
                  case atStart => exact ⟨0, rfl, Nat.zero_le _, Fr.refl _ _⟩
                  case round =>
                    obtain ⟨m, rfl, hm2, hf⟩ := hrel
                    have HF := Lib.hid hf
                    by_cases hlm : m < B.freed.length
                    · have t5 : decide ((m : Int) < B.freed.length) = true := by simpa using hlm
                      obtain ⟨y, hy⟩ : ∃ y, B.freed[m]? = some y := ⟨_, List.getElem?_eq_getElem hlm⟩
                      have hne := HHF.out y (List.mem_of_getElem? hy)
                      have t6 : (y == 1152921504606846976) = false := by simpa using hne
                      obtain ⟨g, off3, c3, hv, hg, hc, hcells3⟩ := (HL3.out.keep hf (by simp)).here (by omega)
                      cases hv
                      obtain ⟨e0, _⟩ := hcells3 m (by omega)
                      rw [List.getElem?_map, hy] at e0
                      replace e0 : wr.cell? ⟨g, off3 + m, none⟩ = some (.int .u64 y) := e0
                      clear hf hcells3 hy hne
                      go_wp2
                      go_roundw
                      case rel => exact ⟨m + 1, by go_num, by omega, HF.out⟩
                      case measure => simp [intOf]; omega
                    · obtain rfl : m = B.freed.length := by omega
                      have t5 : decide ((B.freed.length : Int) < B.freed.length) = false := by simp
                      clear hf
                      go_wp2
                      go_roundw
                      case rel => exact ⟨j + 1, S, B.free, by go_num, by omega, by omega, H3.out.keep HF.out, HOK.out.free.mono (by omega), HHD.out⟩
                      case measure => simp [intOf]; omega

              · have t1 : decide (1 ≤ kind) = false := by simpa using h1
                have HHE := Lib.hid hH
                clear hO hA hH hx hk h1
                have HC := Lib.hid (own_free (HOW.out.keep ((Fr.refl [] wr).alloc (.cells #[.int .i64 kind, .int .i64 u, .int .u64 x] 35))) HOK.out (by omega))
                have HHF := Lib.hid HHE.out.freed
                have HHD := Lib.hid (show Held B.free q s 1152921504606846976 from by have h := HHE.out.deed 0 0 0 (Or.inl (by decide)) (by decide); simpa [PA.deed] using h)
                go_wp2_with (go_at_call 16; refine HC.out.mono ?_; rintro e w3 ⟨fs, fc, rfl, hl3, _, h3⟩; refine go_stop ?_)
                have HL3 := Lib.hid hl3
                have H3 := Lib.hid h3
                have hfm : B.freed.length ≤ 9223372036854775807 := by obtain ⟨_, _, hv, h5, h6⟩ := hl3.form; unfold maxLen at h6; omega
                clear hl3 h3
                unfold Stop
                go_wp2_with fail
                go_loopw [14] (fun i wr => ∃ (m : Nat), i = .int .i64 m ∧ m ≤ B.freed.length ∧ Fr [] w3 wr) (fun i _ => B.freed.length - (intOf i).toNat)
                case atStart => exact ⟨0, rfl, Nat.zero_le _, Fr.refl _ _⟩
                case round =>
                  obtain ⟨m, rfl, hm2, hf⟩ := hrel
                  have HF := Lib.hid hf
                  by_cases hlm : m < B.freed.length
                  · have t5 : decide ((m : Int) < B.freed.length) = true := by simpa using hlm
                    obtain ⟨y, hy⟩ : ∃ y, B.freed[m]? = some y := ⟨_, List.getElem?_eq_getElem hlm⟩
                    have hne := HHF.out y (List.mem_of_getElem? hy)
                    have t6 : (y == 1152921504606846976) = false := by simpa using hne
                    obtain ⟨g, off3, c3, hv, hg, hc, hcells3⟩ := (HL3.out.keep hf (by simp)).here (by omega)
                    cases hv
                    obtain ⟨e0, _⟩ := hcells3 m (by omega)
                    rw [List.getElem?_map, hy] at e0
                    replace e0 : wr.cell? ⟨g, off3 + m, none⟩ = some (.int .u64 y) := e0
                    clear hf hcells3 hy hne
                    go_wp2
                    go_roundw
                    case rel => exact ⟨m + 1, by go_num, by omega, HF.out⟩
                    case measure => simp [intOf]; omega
                  · obtain rfl : m = B.freed.length := by omega
                    have t5 : decide ((B.freed.length : Int) < B.freed.length) = false := by simp
                    clear hf
                    go_wp2
                    go_roundw
                    case rel => exact ⟨j + 1, S, B.free, by go_num, by omega, by omega, H3.out.keep HF.out, HOK.out.free.mono (by omega), HHD.out⟩
                    case measure => simp [intOf]; omega

        · have HHE := Lib.hid hH
          have HLEFT := Lib.hid hH.left
          clear hO hA hH
          by_cases hlt : j < len1
          all_goals first
            | have ht1 : decide (j < len1) = true := by simpa using hlt
              have ht2 : decide ((j : Int) < 80) = false := by simp; omega
            | have ht1 : decide (j < len1) = false := by simpa using hlt
          all_goals
            have t3 : decide (1 ≤ (B.row.length : Int)) = true := by have := HLEFT.out; simp; omega
            go_wp2_with (go_at_call 14; refine (own_left HOW.out HOK.out (by omega)).mono ?_; rintro e w7 ⟨rfl, hf7⟩; have HF7 := Lib.hid hf7; clear hf7)
            go_ret
            exact ⟨rfl, (HOW.out.2.1.trans HF7.out (by simp)).below (Nat.le_refl _) (by simp)⟩

set_option maxRecDepth 100000 in
theorem contract (H : Type) (enc : TypeId × Value → H) (W : World) (base : Nat) (args : Array Value) (ds gs : List (DataW H)) (before : List MemPlace)
    (hval0 : ∀ (j : Nat) t v, Try.f4.params[j]? = some t → args[j]? = some v → Value.okWide Try.prog W .any base t v)
    (hW : DataW.Whole enc Try.prog Try.f4.params.toList Rows.epochHoldsSpec.vars false W args.toList ds gs before) :
    Calls Try.prog 4 args W fun e W' => ∃ v, e = .returned v ∧ Rows.epochHoldsSpec.post enc Try.prog Try.f4 false true false false W args v W' := by
  have hval : ∀ (j : Nat) t v, Try.f4.params[j]? = some t → args[j]? = some v → Value.okWide Try.prog W .any base t v := hval0
  have hW' := hW
  obtain ⟨p, q, hA0, hV, rfl, hfz, hnd⟩ := hW
  have hA : DataW.TrodAll enc Try.prog W 0 (fun _ => true) true Try.f4.params.toList args.toList ds p := hA0
  rw [Try.params4] at hA hval
  obtain ⟨v0, vs0, d0, ds0, p0, q0, hargs, rfl, rfl, h0, r0⟩ := trodAll_cons hA
  obtain ⟨v1, vs1, d1, ds1, p1, q1, rfl, rfl, rfl, h1, r1⟩ := trodAll_cons r0
  obtain ⟨v2, vs2, d2, ds2, p2, q2, rfl, rfl, rfl, h2, r2⟩ := trodAll_cons r1
  obtain ⟨rfl, rfl, rfl⟩ := trodAll_nil r2
  obtain rfl : args = #[v0, v1, v2] := by cases args; simp_all
  obtain ⟨rfl, rfl⟩ := trodVars_none hV
  have k0 := h0
  have lt0 : ∀ x ∈ p0, x.block < W.heap.size := by obtain ⟨m, hm⟩ := k0; exact DataW.trod_lt m _ _ _ hm
  have k1 := h1
  have lt1 : ∀ x ∈ p1, x.block < W.heap.size := by obtain ⟨m, hm⟩ := k1; exact DataW.trod_lt m _ _ _ hm
  have k2 := h2
  have lt2 : ∀ x ∈ p2, x.block < W.heap.size := by obtain ⟨m, hm⟩ := k2; exact DataW.trod_lt m _ _ _ hm
  obtain ⟨a0, len0, cap0, rfl, w0⟩ := open_edeeds (hval 0 22 v0 rfl rfl) h0
  obtain ⟨a1, len1, cap1, rfl, w1⟩ := open_edeeds (hval 1 22 v1 rfl rfl) h1
  obtain ⟨t, rfl, _, _, wt⟩ := open_int Try.underlying5 (hval 2 5 v2 rfl rfl) h2
  clear hA0 hval0 hval
  refine (walk a0 len0 cap0 a1 len1 cap1 t W w0 w1 wt).mono fun e W' ⟨he, bel⟩ => ?_
  subst he
  exact ⟨_, rfl, _, _, _, [], _, [], hW', trodAll_mk1 (shut_bool Try.underlying4 _), (trodAll_cons_mk (Below.trod laid_prog (by kernel_rfl) (of_decide_eq_true (by kernel_rfl)) k0 bel lt0) (trodAll_cons_mk (Below.trod laid_prog (by kernel_rfl) (of_decide_eq_true (by kernel_rfl)) k1 bel lt1) (trodAll_cons_mk (Below.trod laid_prog (by kernel_rfl) (of_decide_eq_true (by kernel_rfl)) k2 bel lt2) trodAll_mk0))), rfl, bel.frame _, fun h => by cases h⟩

set_option maxRecDepth 100000 in
theorem lifted (os : Os) (started : os.Started) (H : Type) (enc : TypeId × Value → H) :
    ReturnsInHanded {} Try.checked os 4 .any (Rows.epochHoldsSpec.pre6 enc Try.prog Try.f4 Rows.epochHoldsRow.domain false) (Rows.epochHoldsSpec.post enc Try.prog Try.f4 false true false false) := by
  refine returnsInHanded_of_change (C := Try.checked) own_prog started (by kernel_rfl) Try.func4
    (ChangeSpec.witness6 (enc := enc) (C := Try.checked) false ⟨#[], #[.slice none 0 0, .slice none 0 0, .int .u8 0], []⟩ 8 (by kernel_rfl) (by kernel_rfl) (by kernel_rfl) (by kernel_rfl)) ?_
  intro W base args ds gs before hval hW _ _
  exact contract H enc W base args ds gs before hval hW

theorem proved : Rows.EpochHoldsSaid :=
  OpenClaim.holds_of_wide 4 Try.f4 rfl rfl rfl rfl rfl rfl rfl ⟨rfl, rfl, rfl, rfl, rfl⟩ rfl rfl rfl rfl rfl (by kernel_rfl) Try.func4 (by kernel_rfl)
    (of_decide_eq_true (by kernel_rfl)) (by unfold Func.isWrapper; first | (rw [if_pos (by decide +kernel)]; kernel_rfl) | (rw [if_neg (by decide +kernel)]; exact ⟨rfl, rfl⟩))
    (fun os started H enc _ => lifted os started H enc)

end Go.Proofs.Ytphniphlflijeaa.lawEpochHolds
