/- PACKAGE subidx: measure: contract -/
import Derived.Test.YtcieokfjkfpajaaSiTow
namespace Go.Proofs.Ytcieokfjkfpajaa
open Go.RowKit
set_option linter.unusedVariables false
set_option linter.unusedSimpArgs false

theorem run_max_nat {P : Program} {ts : Array TypeId} {ty : TypeId} (a b : Nat) (w : World) : (Builtin.max_ ts ty #[.int .i64 (a : Int), .int .i64 (b : Int)]).run P w = .ok (.int .i64 ((max a b : Nat) : Int)) w := by
  by_cases h : a < b
  · have : max a b = b := by omega
    simp [Builtin.max_, Builtin.max2, this, h]
  · have h2 : max a b = a := by omega
    rw [h2]
    by_cases h3 : b < a
    · simp [Builtin.max_, Builtin.max2, h]
    · have : a = b := by omega
      subst this
      simp [Builtin.max_, Builtin.max2]
/-- a hull, one side more -/
def stepH (h : Rg) (c : Tr) : Rg := if c.isNil = true then h else arnd h c.hull
theorem hull_step (b : Nat) (s : Sb) (l r : Tr) : (Tr.node b s l r).hull = stepH (stepH (s.f, s.t) l) r := rfl
theorem nod_set6 {w : World} {b : Nat} {s : Sb} {pl pr : Option Addr} {h : Int} {hu : Rg} (hb : NodB w b s pl pr h hu) (h' : Int) : NodB (w.setCell ⟨b, 6, none⟩ (.int .i64 h')) b s pl pr h' hu := set_block hb 6 _
theorem nod_set78 {w : World} {b : Nat} {s : Sb} {pl pr : Option Addr} {h : Int} {hu : Rg} (hb : NodB w b s pl pr h hu) (x y : ByteArray) : NodB ((w.setCell ⟨b, 7, none⟩ (.string x)).setCell ⟨b, 8, none⟩ (.string y)) b s pl pr h (x, y) := set_block (set_block hb 7 _) 8 _
theorem nod_set4 {w : World} {b : Nat} {s : Sb} {pl pr : Option Addr} {h : Int} {hu : Rg} (hb : NodB w b s pl pr h hu) (p : Option Addr) : NodB (w.setCell ⟨b, 4, none⟩ (.pointer p)) b s p pr h hu := set_block hb 4 _
theorem nod_set5 {w : World} {b : Nat} {s : Sb} {pl pr : Option Addr} {h : Int} {hu : Rg} (hb : NodB w b s pl pr h hu) (p : Option Addr) : NodB (w.setCell ⟨b, 5, none⟩ (.pointer p)) b s pl p h hu := set_block hb 5 _
theorem fr_set1 {w w' : World} {S : List Nat} {b : Nat} (h : Fr S w w') (hb : b ∈ S) (o : Nat) (u : Value) : Fr S w (w'.setCell ⟨b, o, none⟩ u) := h.setCell (Or.inl hb) u
def rgV (h : Rg) : Value := .agg #[.string h.1, .string h.2]
def hullN (s : Rg) (l r : Tr) (j : Nat) : Rg := if j = 0 then s else if j = 1 then stepH s l else stepH (stepH s l) r
theorem hullN_0 (s : Rg) (l r : Tr) : hullN s l r 0 = s := rfl
theorem hullN_1 (s : Rg) (l r : Tr) : hullN s l r 1 = stepH s l := rfl
theorem hullN_2 (s : Rg) (l r : Tr) : hullN s l r 2 = stepH (stepH s l) r := rfl
theorem hullN_s0 (s : Rg) (l r : Tr) (h : l.isNil = false) : hullN s l r 1 = arnd (hullN s l r 0) l.hull := by rw [hullN_1, hullN_0]; unfold stepH; rw [if_neg (by rw [h]; simp)]
theorem hullN_s1 (s : Rg) (l r : Tr) (h : r.isNil = false) : hullN s l r 2 = arnd (hullN s l r 1) r.hull := by rw [hullN_2, hullN_1]; unfold stepH; rw [if_neg (by rw [h]; simp)]
theorem ptr_cases (t : Tr) : (t = .nil ∧ t.ptr = none) ∨ ∃ b s l r, t = .node b s l r ∧ t.ptr = some ⟨b, 0, none⟩ := by
  cases t with
  | nil => exact Or.inl ⟨rfl, rfl⟩
  | node b s l r => exact Or.inr ⟨b, s, l, r, rfl, rfl⟩
theorem stepH_node (h : Rg) (b : Nat) (s : Sb) (l r : Tr) : stepH h (.node b s l r) = arnd h (Tr.node b s l r).hull := rfl
set_option maxHeartbeats 4000000 in
theorem si_measure (b : Nat) (s : Sb) (l r : Tr) (w : World) (hb : ∃ h hu, NodB w b s l.ptr r.ptr h hu) (hl : TrAt w l) (hr : TrAt w r) (nl : b ∉ l.blks) (nr : b ∉ r.blks) (hs : l.lst.length + r.lst.length < 1000000) :
    Calls Try.prog 50 #[.pointer (some ⟨b, 0, none⟩)] w fun e w' => e = .returned (.tuple #[]) ∧ NodB w' b s l.ptr r.ptr (Tr.node b s l r).ht (Tr.node b s l r).hull ∧ Fr [b] w w' := by
  obtain ⟨h0, hu0, hb⟩ := hb
  have HHL := Lib.hid fun (W : World) (hW : Fr [] w W) => si_height l W (hl.keep0 hW)
  have HHR := Lib.hid fun (W : World) (hW : Fr [] w W) => si_height r W (hr.keep0 hW)
  have hlb := Tr.ht_le l
  have hrb := Tr.ht_le r
  have HB := Lib.hid hb
  obtain ⟨c0, c1, c2, c3, c4, c5, c6, c7, c8, fz⟩ := nod_cells hb
  have f6 := fz 6
  have f7 := fz 7
  have f8 := fz 8
  have HL := Lib.hid hl
  have HR := Lib.hid hr
  have HNL := Lib.hid nl
  have HNR := Lib.hid nr
  have cm := fun ts ty W => run_max_nat (P := Try.prog) (ts := ts) (ty := ty) l.ht r.ht W
  obtain ⟨M, hM⟩ : ∃ M, M = max l.ht r.ht := ⟨_, rfl⟩
  rw [← hM] at cm
  have hMb : M < 1000000 := by omega
  have q1 : IntKind.i64.wrap (1 + (M : Int)) = 1 + (M : Int) := IntWalk.i64_in _ ⟨by omega, by omega⟩
  have HM : Hid (((Tr.node b s l r).ht : Int) = 1 + (M : Int)) := Lib.hid (by rw [hM]; simp only [Tr.ht]; omega)
  have HHU := Lib.hid (hull_step b s l r)
  generalize (Tr.node b s l r).hull = HU at *
  generalize ((Tr.node b s l r).ht : Int) = HT at *
  clear hb hl hr nl nr hM fz hlb hrb hs
  generalize hpl : l.ptr = pl at *
  generalize hpr : r.ptr = pr at *
  generalize l.ht = lh at *
  generalize r.ht = rh at *
  have HPL := Lib.hid hpl
  have HPR := Lib.hid hpr
  clear hpl hpr
  obtain ⟨si, sr, sf, st⟩ := s
  dsimp only at *
  have KS : Hid ((w.setCell ⟨b, 6, none⟩ (.int .i64 (1 + (M : Int)))).drew.cell? ⟨b, 4, none⟩ = some (.pointer pl) ∧ (w.setCell ⟨b, 6, none⟩ (.int .i64 (1 + (M : Int)))).drew.cell? ⟨b, 5, none⟩ = some (.pointer pr)) := Lib.hid (by
    obtain ⟨_, _, _, _, k4, k5, _⟩ := nod_cells (nod_set6 HB.out (1 + (M : Int)))
    exact ⟨k4, k5⟩)
  go_enter Try.func50, Try.ntmps50
  go_upto_region 0 with fail
  go_cut [4] (fun v wc => NodB wc b ⟨si, sr, sf, st⟩ pl pr (1 + (M : Int)) hu0 ∧ Fr [b] w wc)
  case first =>
    go_region_held3 (fun w' => w'.cell? ⟨b, 4, none⟩ = some (.pointer pl) ∧ w'.cell? ⟨b, 5, none⟩ = some (.pointer pr)) (first | exact KS.out | go_keep) (first
      | (go_at_call 48; refine (HHL.out _ (Fr.refl [] w).drew).mono ?_; rintro e w1 ⟨rfl, rfl⟩)
      | (go_at_call 48; refine (HHR.out _ (Fr.refl [] w).drew).mono ?_; rintro e w1 ⟨rfl, rfl⟩))
    all_goals
      go_wp2_with fail
      go_meet
      exact ⟨nod_set6 HB.out _, (fr_set1 (Fr.refl [b] w) (by simp) _ _).drew⟩
  case rest =>
    obtain ⟨hb1, hf1⟩ := hcut
    have HF1 := Lib.hid hf1
    have HB1 := Lib.hid hb1
    clear c4 c5 c6 c7 c8 f6 f7 f8 HB KS HHL HHR cm
    obtain ⟨_, _, c2, c3, c4, c5, c6, c7, c8, fz⟩ := nod_cells hb1
    have f7 := fz 7
    have f8 := fz 8
    clear fz hb1 hf1
    have i0 : ∀ W, (Instr.index 63 (.agg #[.pointer pl, .pointer pr]) (.int .i64 0)).run Try.prog W = .ok (.pointer pl) W := fun _ => by kernel_rfl
    have i1 : ∀ W, (Instr.index 63 (.agg #[.pointer pl, .pointer pr]) (.int .i64 1)).run Try.prog W = .ok (.pointer pr) W := fun _ => by kernel_rfl
    go_upto_region 3 with fail
    go_loopw [33] (fun i wr => ∃ (j : Nat) (z : Int), i = .int .i64 z ∧ ((z = 0 ∧ j = 0) ∨ (z = 1 ∧ j = 1) ∨ (z = 2 ∧ j = 2)) ∧ NodB wr b ⟨si, sr, sf, st⟩ pl pr (1 + (M : Int)) (hullN (sf, st) l r j) ∧ Fr [b] w wr) (fun i _ => 2 - (intOf i).toNat)
    case atStart => exact ⟨0, 0, rfl, by omega, nod_set78 HB1.out _ _, (fr_set1 (fr_set1 HF1.out (by simp) _ _) (by simp) _ _)⟩
    case round =>
      obtain ⟨j, z, rfl, hj, hb2, hf2⟩ := hrel
      have HB2 := Lib.hid hb2
      have HF2 := Lib.hid hf2
      clear c0 c1 c2 c3 c4 c5 c6 c7 c8 f7 f8
      rcases hj with ⟨rfl, rfl⟩ | ⟨rfl, rfl⟩ | ⟨rfl, rfl⟩
      all_goals
        obtain ⟨_, _, _, _, _, _, _, c7, c8, fz⟩ := nod_cells hb2
        have f7 := fz 7
        have f8 := fz 8
        clear fz hb2 hf2
      · have hcs := ptr_cases l
        rcases hcs with ⟨ht, hp⟩ | ⟨xb, xs, xl, xr, ht, hp⟩
        · have HT2 := Lib.hid ht
          obtain rfl : pl = none := by rw [← HPL.out, hp]
          clear ht hp
          go_wp2_with fail
          go_roundw
          case rel =>
            refine ⟨1, 1, rfl, by omega, ?_, HF2.out⟩
            have := HB2.out
            rw [hullN_0] at this
            rw [hullN_1, HT2.out]
            exact this
          case measure => simp [intOf]
        · have HT2 := Lib.hid ht
          obtain rfl : pl = some ⟨xb, 0, none⟩ := by rw [← HPL.out, hp]
          have htr : TrAt wr l := TrAt.keep HF2.out HL.out (by intro k hk; simp; rintro rfl; exact HNL.out hk)
          have hne : ¬ xb = b := by rintro rfl; apply HNL.out; rw [ht, Tr.blks_node]; simp
          rw [ht] at htr
          have hx := htr.1
          obtain ⟨_, _, _, _, _, _, _, d7, d8, _⟩ := nod_cells hx
          have HXH := Lib.hid (hullN_s0 (sf, st) l r (by rw [ht]; rfl))
          rw [← ht] at d7 d8
          clear ht hp htr hx
          generalize l.hull = XU at *
          have HA := Lib.hid fun W => si_around (hullN (sf, st) l r 0) XU W
          generalize hullN (sf, st) l r 0 = G at *
          go_upto_region 6 with fail
          go_region_with ((go_at_call 59; refine (HA.out _).mono ?_; rintro e w1 ⟨rfl, h1⟩; have HF3 := Lib.hid ((Fr.refl [] wr).drew.trans h1 (by simp)); have HB3 := Lib.hid (NodB.keep HB2.out HF3.out (by simp)); obtain ⟨_, _, _, _, _, _, _, e7, e8, ef⟩ := nod_cells HB3.out; have ef7 := ef 7; have ef8 := ef 8; clear h1 ef))
          all_goals
            go_wp2_with fail
            go_roundw
            case rel =>
              refine ⟨1, 1, rfl, by omega, ?_, ?_⟩
              · rw [HXH.out]; exact nod_set78 HB3.out _ _
              · exact fr_set1 (fr_set1 (HF2.out.trans HF3.out (by simp)) (by simp) _ _) (by simp) _ _
            case measure => simp [intOf]
      · have hcs := ptr_cases r
        rcases hcs with ⟨ht, hp⟩ | ⟨xb, xs, xl, xr, ht, hp⟩
        · have HT2 := Lib.hid ht
          obtain rfl : pr = none := by rw [← HPR.out, hp]
          clear ht hp
          go_wp2_with fail
          go_roundw
          case rel =>
            refine ⟨2, 2, rfl, by omega, ?_, HF2.out⟩
            have := HB2.out
            rw [hullN_1] at this
            rw [hullN_2, HT2.out]
            exact this
          case measure => simp [intOf]
        · have HT2 := Lib.hid ht
          obtain rfl : pr = some ⟨xb, 0, none⟩ := by rw [← HPR.out, hp]
          have htr : TrAt wr r := TrAt.keep HF2.out HR.out (by intro k hk; simp; rintro rfl; exact HNR.out hk)
          have hne : ¬ xb = b := by rintro rfl; apply HNR.out; rw [ht, Tr.blks_node]; simp
          rw [ht] at htr
          have hx := htr.1
          obtain ⟨_, _, _, _, _, _, _, d7, d8, _⟩ := nod_cells hx
          have HXH := Lib.hid (hullN_s1 (sf, st) l r (by rw [ht]; rfl))
          rw [← ht] at d7 d8
          clear ht hp htr hx
          generalize r.hull = XU at *
          have HA := Lib.hid fun W => si_around (hullN (sf, st) l r 1) XU W
          generalize hullN (sf, st) l r 1 = G at *
          go_upto_region 6 with fail
          go_region_with ((go_at_call 59; refine (HA.out _).mono ?_; rintro e w1 ⟨rfl, h1⟩; have HF3 := Lib.hid ((Fr.refl [] wr).drew.trans h1 (by simp)); have HB3 := Lib.hid (NodB.keep HB2.out HF3.out (by simp)); obtain ⟨_, _, _, _, _, _, _, e7, e8, ef⟩ := nod_cells HB3.out; have ef7 := ef 7; have ef8 := ef 8; clear h1 ef))
          all_goals
            go_wp2_with fail
            go_roundw
            case rel =>
              refine ⟨2, 2, rfl, by omega, ?_, ?_⟩
              · rw [HXH.out]; exact nod_set78 HB3.out _ _
              · exact fr_set1 (fr_set1 (HF2.out.trans HF3.out (by simp)) (by simp) _ _) (by simp) _ _
            case measure => simp [intOf]
      · go_wp2_with fail
        have hz := HB2.out
        rw [hullN_2, ← HHU.out, ← HM.out] at hz
        refine bodyPost_end (v := .tuple #[]) (by simp [results, Try.results50, go_sem, *]) rfl ⟨rfl, hz, HF2.out⟩
end Go.Proofs.Ytcieokfjkfpajaa
