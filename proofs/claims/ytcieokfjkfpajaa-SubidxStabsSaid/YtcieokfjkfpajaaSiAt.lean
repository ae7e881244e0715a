/- A TREE OF WATCHES IN MEMORY; PACKAGE subidx: height, around, order, toward: contracts -/
import Derived.Test.YtcieokfjkfpajaaSi
import Derived.Deep.RegionHeldLaw
namespace Go.Proofs.Ytcieokfjkfpajaa
open Go.RowKit
set_option linter.unusedVariables false
set_option linter.unusedSimpArgs false

def nodV (s : Sb) (pl pr : Option Addr) (h : Int) (hu : Rg) : Array Value := #[.int .i64 s.id, .int .i64 s.rev, .string s.f, .string s.t, .pointer pl, .pointer pr, .int .i64 h, .string hu.1, .string hu.2]
/-- a node's block -/
def NodB (w : World) (b : Nat) (s : Sb) (pl pr : Option Addr) (h : Int) (hu : Rg) : Prop := w.heap[b]? = some (.cells (nodV s pl pr h hu) 65 (0, 0))
def TrAt (w : World) : Tr → Prop
  | .nil => True
  | .node b s l r => NodB w b s l.ptr r.ptr (Tr.node b s l r).ht (Tr.node b s l r).hull ∧ TrAt w l ∧ TrAt w r
theorem NodB.keep {S : List Nat} {w w' : World} {b : Nat} {s : Sb} {pl pr : Option Addr} {h : Int} {hu : Rg} (hb : NodB w b s pl pr h hu) (hf : Fr S w w') (hn : b ∉ S) : NodB w' b s pl pr h hu := Fr.keep hf hb hn
theorem NodB.lt {w : World} {b : Nat} {s : Sb} {pl pr : Option Addr} {h : Int} {hu : Rg} (hb : NodB w b s pl pr h hu) : b < w.heap.size := lt_of_block hb
theorem TrAt.keep {S : List Nat} {w w' : World} (hf : Fr S w w') : ∀ {t : Tr}, TrAt w t → (∀ k ∈ t.blks, k ∉ S) → TrAt w' t
  | .nil, _, _ => trivial
  | .node b s l r, ⟨h1, h2, h3⟩, hn => by
    rw [Tr.blks_node] at hn
    exact ⟨h1.keep hf (hn b (by simp)), TrAt.keep hf h2 fun k hk => hn k (by simp [hk]), TrAt.keep hf h3 fun k hk => hn k (by simp [hk])⟩
theorem TrAt.keep0 {w w' : World} {t : Tr} (h : TrAt w t) (hf : Fr [] w w') : TrAt w' t := TrAt.keep hf h (by simp)
theorem TrAt.lt {w : World} : ∀ {t : Tr}, TrAt w t → ∀ k ∈ t.blks, k < w.heap.size
  | .nil, _, k, hk => by simp [Tr.blks, Tr.lst] at hk
  | .node b s l r, ⟨h1, h2, h3⟩, k, hk => by
    rw [Tr.blks_node] at hk
    rcases List.mem_append.1 hk with hk | hk
    · exact TrAt.lt h2 k hk
    · rcases List.mem_cons.1 hk with rfl | hk
      · exact h1.lt
      · exact TrAt.lt h3 k hk
theorem nod_cells {w : World} {b : Nat} {s : Sb} {pl pr : Option Addr} {h : Int} {hu : Rg} (hb : NodB w b s pl pr h hu) :
    w.cell? ⟨b, 0, none⟩ = some (.int .i64 s.id) ∧ w.cell? ⟨b, 1, none⟩ = some (.int .i64 s.rev) ∧ w.cell? ⟨b, 2, none⟩ = some (.string s.f) ∧ w.cell? ⟨b, 3, none⟩ = some (.string s.t) ∧
    w.cell? ⟨b, 4, none⟩ = some (.pointer pl) ∧ w.cell? ⟨b, 5, none⟩ = some (.pointer pr) ∧ w.cell? ⟨b, 6, none⟩ = some (.int .i64 h) ∧ w.cell? ⟨b, 7, none⟩ = some (.string hu.1) ∧ w.cell? ⟨b, 8, none⟩ = some (.string hu.2) ∧ ∀ o, w.frozen? ⟨b, o, none⟩ = false := cells9 hb

theorem si_height (t : Tr) (w : World) (h : TrAt w t) : Calls Try.prog 48 #[.pointer t.ptr] w fun e w' => e = .returned (.int .i64 t.ht) ∧ w = w' := by
  cases t with
  | nil =>
    show Calls Try.prog 48 #[.pointer none] w fun e w' => e = .returned (.int .i64 0) ∧ w = w'
    go_enter Try.func48, Try.ntmps48
    go_wp2
    go_ret
    exact ⟨rfl, rfl⟩
  | node b s l r =>
    obtain ⟨h1, _, _⟩ := h
    obtain ⟨_, _, _, _, _, _, c6, _⟩ := nod_cells h1
    clear h1
    generalize ((Tr.node b s l r).ht : Int) = n at *
    show Calls Try.prog 48 #[.pointer (some ⟨b, 0, none⟩)] w fun e w' => e = .returned (.int .i64 n) ∧ w = w'
    go_enter Try.func48, Try.ntmps48
    go_wp2
    go_ret
    exact ⟨rfl, rfl⟩

theorem run_min_mn {P : Program} {ts : Array TypeId} {ty : TypeId} (f g : ByteArray) (w : World) : (Builtin.min_ ts ty #[.string f, .string g]).run P w = .ok (.string (mnS f g)) w := by
  unfold mnS
  cases h : ls g.toList f.toList with
  | true =>
    have k := ls_asymm h
    have hne : ¬ f.toList = g.toList := by intro e; rw [e, ls_irrefl] at h; cases h
    unfold ls at k
    simp [Builtin.min_, Builtin.min2, Op.stringOp, asBool, k, hne]
  | false =>
    cases k : ls f.toList g.toList with
    | true => unfold ls at k; simp [Builtin.min_, Builtin.min2, Op.stringOp, asBool, k]
    | false =>
      have e2 := ls_total k h
      unfold ls at k
      simp [Builtin.min_, Builtin.min2, Op.stringOp, asBool, k, e2]
theorem arnd_nil {a b : Rg} (h : a.2.toList = [] ∨ b.2.toList = []) : arnd a b = (mnS a.1 b.1, ⟨#[]⟩) := by unfold arnd; rw [if_pos h]
theorem arnd_two {a b : Rg} (h : ¬ a.2.toList = []) (h2 : ¬ b.2.toList = []) : arnd a b = (mnS a.1 b.1, mF a.2 b.2) := by unfold arnd; rw [if_neg (by rintro (x | x); exact h x; exact h2 x)]
set_option maxHeartbeats 1000000 in
theorem si_around (a b : Rg) (w : World) : Calls Try.prog 59 #[.agg #[.string a.1, .string a.2], .agg #[.string b.1, .string b.2]] w fun e w' => e = .returned (.agg #[.string (arnd a b).1, .string (arnd a b).2]) ∧ Fr [] w w' := by
  obtain ⟨R, hR⟩ : ∃ R, R = arnd a b := ⟨_, rfl⟩
  rw [← hR]
  obtain ⟨a1, a2⟩ := a
  obtain ⟨b1, b2⟩ := b
  dsimp only
  have c1 : ∀ ts ty W, (Builtin.min_ ts ty #[.string a1, .string b1]).run Try.prog W = .ok (.string (mnS a1 b1)) W := fun ts ty W => run_min_mn a1 b1 W
  have c2 : ∀ ts ty W, (Builtin.max_ ts ty #[.string a2, .string b2]).run Try.prog W = .ok (.string (mF a2 b2)) W := fun ts ty W => run_max_mF a2 b2 W
  by_cases h1 : a2.toList = []
  · have HR := Lib.hid (hR.trans (arnd_nil (Or.inl h1)))
    clear hR
    generalize mnS a1 b1 = M at *
    go_enter Try.func59, Try.ntmps59
    go_wp2
    refine bodyPost_ret (v := .agg #[.string M, .string ⟨#[]⟩]) (by simp [results, Try.results59, go_sem, *]) rfl ⟨by rw [HR.out], ?_⟩
    with_reducible (repeat (first | exact Fr.refl _ _ | refine Fr.drew ?_ | refine Fr.alloc ?_ _))
  · by_cases h2 : b2.toList = []
    · have HR := Lib.hid (hR.trans (arnd_nil (Or.inr h2)))
      clear hR
      generalize mnS a1 b1 = M at *
      go_enter Try.func59, Try.ntmps59
      go_wp2
      refine bodyPost_ret (v := .agg #[.string M, .string ⟨#[]⟩]) (by simp [results, Try.results59, go_sem, *]) rfl ⟨by rw [HR.out], ?_⟩
      with_reducible (repeat (first | exact Fr.refl _ _ | refine Fr.drew ?_ | refine Fr.alloc ?_ _))
    · have HR := Lib.hid (hR.trans (arnd_two h1 h2))
      clear hR
      generalize mnS a1 b1 = M at *
      generalize mF a2 b2 = X at *
      have e1 : a2.toList.isEmpty = false := by simpa using h1
      have e2 : b2.toList.isEmpty = false := by simpa using h2
      clear h1 h2
      go_enter Try.func59, Try.ntmps59
      go_wp2
      refine bodyPost_ret (v := .agg #[.string M, .string X]) (by simp [results, Try.results59, go_sem, *]) rfl ⟨by rw [HR.out], ?_⟩
      with_reducible (repeat (first | exact Fr.refl _ _ | refine Fr.drew ?_ | refine Fr.alloc ?_ _))

theorem cmp_str (a b : ByteArray) (w : World) : Calls Try.prog 61 #[.string a, .string b] w fun e w' => e = .returned (.int .i64 (cmpS a.toList b.toList)) ∧ w = w' := by
  have c1 := @run_lss Try.prog
  have c2 := @run_gtr' Try.prog
  obtain ⟨R, hR⟩ : ∃ R, R = cmpS a.toList b.toList := ⟨_, rfl⟩
  rw [← hR]
  unfold cmpS ls at hR
  have HI : Hid (∀ x : ByteArray, ∀ W, Calls Try.prog 64 #[.string x] W fun e w' => e = .returned (.bool false) ∧ W = w') := Lib.hid fun x W => by
    go_enter Try.func64, Try.ntmps64
    go_wp2
    go_ret
    exact ⟨by simp, rfl⟩
  cases h1 : Op.bytesLess a.toList b.toList with
  | true =>
    have HR := Lib.hid (hR.trans (by rw [h1, if_pos rfl]))
    clear hR
    go_enter Try.func61, Try.ntmps61
    go_wp2_with (go_at_call 64; refine (HI.out _ _).mono ?_; rintro e w1 ⟨rfl, rfl⟩)
    go_ret
    exact ⟨by rw [HR.out]; rfl, rfl⟩
  | false =>
    cases h2 : Op.bytesLess b.toList a.toList with
    | true =>
      have HR := Lib.hid (hR.trans (by rw [h1, h2, if_neg (by simp), if_pos rfl]))
      clear hR
      go_enter Try.func61, Try.ntmps61
      go_wp2_with (go_at_call 64; refine (HI.out _ _).mono ?_; rintro e w1 ⟨rfl, rfl⟩)
      go_ret
      exact ⟨by rw [HR.out]; rfl, rfl⟩
    | false =>
      have HR := Lib.hid (hR.trans (by rw [h1, h2, if_neg (by simp), if_neg (by simp)]))
      clear hR
      go_enter Try.func61, Try.ntmps61
      go_wp2_with (go_at_call 64; refine (HI.out _ _).mono ?_; rintro e w1 ⟨rfl, rfl⟩)
      go_ret
      exact ⟨by rw [HR.out]; rfl, rfl⟩
theorem cmp_int (a b : Int) (w : World) : Calls Try.prog 62 #[.int .i64 a, .int .i64 b] w fun e w' => e = .returned (.int .i64 (cmpI a b)) ∧ w = w' := by
  obtain ⟨R, hR⟩ : ∃ R, R = cmpI a b := ⟨_, rfl⟩
  rw [← hR]
  unfold cmpI at hR
  have HI : Hid (∀ x : Int, ∀ W, Calls Try.prog 58 #[.int .i64 x] W fun e w' => e = .returned (.bool false) ∧ W = w') := Lib.hid fun x W => by
    go_enter Try.func58, Try.ntmps58
    go_wp2
    go_ret
    exact ⟨by simp, rfl⟩
  by_cases h1 : a < b
  · have HR := Lib.hid (hR.trans (by rw [if_pos h1]))
    have t1 : decide (a < b) = true := by simpa using h1
    clear hR h1
    go_enter Try.func62, Try.ntmps62
    go_wp2_with (go_at_call 58; refine (HI.out _ _).mono ?_; rintro e w1 ⟨rfl, rfl⟩)
    go_ret
    exact ⟨by rw [HR.out]; rfl, rfl⟩
  · by_cases h2 : b < a
    · have HR := Lib.hid (hR.trans (by rw [if_neg h1, if_pos h2]))
      have t1 : decide (a < b) = false := by simpa using h1
      have t2 : decide (b < a) = true := by simpa using h2
      clear hR h1 h2
      go_enter Try.func62, Try.ntmps62
      go_wp2_with (go_at_call 58; refine (HI.out _ _).mono ?_; rintro e w1 ⟨rfl, rfl⟩)
      go_ret
      exact ⟨by rw [HR.out]; rfl, rfl⟩
    · have HR := Lib.hid (hR.trans (by rw [if_neg h1, if_neg h2]))
      have t1 : decide (a < b) = false := by simpa using h1
      have t2 : decide (b < a) = false := by simpa using h2
      clear hR h1 h2
      go_enter Try.func62, Try.ntmps62
      go_wp2_with (go_at_call 58; refine (HI.out _ _).mono ?_; rintro e w1 ⟨rfl, rfl⟩)
      go_ret
      exact ⟨by rw [HR.out]; rfl, rfl⟩

theorem cmp_or (x y : Int) (g : Nat) (w : World) (c0 : w.cell? ⟨g, 0, none⟩ = some (.int .i64 x)) (c1 : w.cell? ⟨g, 1, none⟩ = some (.int .i64 y)) :
    Calls Try.prog 60 #[.slice (some ⟨g, 0, none⟩) 2 2] w fun e w' => e = .returned (.int .i64 (if x ≠ 0 then x else y)) ∧ w = w' := by
  obtain ⟨R, hR⟩ : ∃ R, R = (if x ≠ 0 then x else y) := ⟨_, rfl⟩
  rw [← hR]
  have HR := Lib.hid hR
  clear hR
  go_enter Try.func60, Try.ntmps60
  go_wp2_with fail
  go_loopw [8] (fun i wr => ∃ j : Nat, i = .int .i64 j ∧ j ≤ 2 ∧ (0 < j → x = 0) ∧ (1 < j → y = 0) ∧ w = wr) (fun i _ => 2 - (intOf i).toNat)
  case atStart => exact ⟨0, rfl, by omega, by omega, by omega, rfl⟩
  case round =>
    obtain ⟨j, rfl, hj, h0, h1, rfl⟩ := hrel
    have H0 := Lib.hid h0
    have H1 := Lib.hid h1
    clear h0 h1
    obtain rfl | rfl | rfl : j = 0 ∨ j = 1 ∨ j = 2 := by omega
    · by_cases hx : x = 0
      · subst hx
        go_wp2_with fail
        go_roundw
        case rel => exact ⟨1, rfl, by omega, by intro _; trivial, by omega, by trivial⟩
        case measure => simp [intOf]
      · have t1 : (x == 0) = false := by simpa using hx
        have HX := Lib.hid hx
        clear hx
        go_wp2_with fail
        go_ret
        exact ⟨by rw [HR.out, if_pos HX.out]; rfl, rfl⟩
    · by_cases hx : y = 0
      · subst hx
        go_wp2_with fail
        go_roundw
        case rel => exact ⟨2, rfl, by omega, fun _ => H0.out (by omega), by intro _; trivial, by trivial⟩
        case measure => simp [intOf]
      · have t1 : (y == 0) = false := by simpa using hx
        have HX := Lib.hid hx
        clear hx
        go_wp2_with fail
        go_ret
        exact ⟨by rw [HR.out, if_neg (by rw [H0.out (by omega)]; simp)]; rfl, rfl⟩
    · go_wp2_with fail
      go_ret
      exact ⟨by rw [HR.out, H0.out (by omega), H1.out (by omega)]; rfl, rfl⟩

theorem ordS_eq (a b : Sb) : (if cmpS a.f.toList b.f.toList ≠ 0 then cmpS a.f.toList b.f.toList else cmpI a.id b.id) = ordS a b := rfl
set_option maxHeartbeats 2000000 in
theorem si_order (a b : Sb) (w : World) : Calls Try.prog 51 #[a.val, b.val] w fun e w' => e = .returned (.int .i64 (ordS a b)) ∧ Fr [] w w' := by
  have HO := Lib.hid (ordS_eq a b)
  generalize ordS a b = R at *
  obtain ⟨ai, ar, af, at'⟩ := a
  obtain ⟨bi, br, bf, bt⟩ := b
  unfold Sb.val
  dsimp only at *
  have HS := Lib.hid fun W => cmp_str af bf W
  have HI := Lib.hid fun W => cmp_int ai bi W
  generalize cmpS af.toList bf.toList = X at *
  generalize cmpI ai bi = Y at *
  have HC : Hid (∀ g W, W.heap[g]? = some (.cells #[.int .i64 X, .int .i64 Y] 3 (0, 0)) → Calls Try.prog 60 #[.slice (some ⟨g, 0, none⟩) 2 2] W fun e w' => e = .returned (.int .i64 R) ∧ W = w') := Lib.hid fun g W hW => by
    obtain ⟨c0, c1, _⟩ := cells2 hW
    rw [← HO.out]; exact cmp_or X Y g W c0 c1
  go_enter Try.func51, Try.ntmps51
  go_upto_region 1 with fail
  obtain ⟨wb, hwb⟩ : ∃ wb, wb = (w.alloc (Obj.cells #[.int .i64 ai, .int .i64 ar, .string af, .string at'] 41)).alloc (Obj.cells #[.int .i64 bi, .int .i64 br, .string bf, .string bt] 41) := ⟨_, rfl⟩
  have HWB := Lib.hid hwb
  have HF : Hid (Fr [] w wb) := Lib.hid (by rw [hwb]; exact ((Fr.refl [] w).alloc _).alloc _)
  obtain ⟨x0, x1, _⟩ := two_boxes (w := w) (w1 := wb) (a := .cells #[.int .i64 ai, .int .i64 ar, .string af, .string at'] 41) (b := .cells #[.int .i64 bi, .int .i64 br, .string bf, .string bt] 41) (by rw [hwb]; exact Fr.refl _ _)
  obtain ⟨a0, a1, a2, a3, _⟩ := cells4 x0
  obtain ⟨b0, b1, b2, b3, _⟩ := cells4 x1
  rw [← HWB.out]
  clear hwb x0 x1
  go_region_held_law (fun w' => w'.cell? ⟨w.heap.size, 0, none⟩ = some (.int .i64 ai) ∧ w'.cell? ⟨w.heap.size, 2, none⟩ = some (.string af) ∧ w'.cell? ⟨w.heap.size + 1, 0, none⟩ = some (.int .i64 bi) ∧ w'.cell? ⟨w.heap.size + 1, 2, none⟩ = some (.string bf)) (go_keep) (first
    | (go_at_call 61; refine (HS.out _).mono ?_; rintro e w1 ⟨rfl, rfl⟩)
    | (go_at_call 62; refine (HI.out _).mono ?_; rintro e w1 ⟨rfl, rfl⟩)
    | (go_at_call 60; refine (HC.out wb.heap.size (wb.alloc (Obj.cells #[Value.int IntKind.i64 X, Value.int IntKind.i64 Y] 3)).drew (new_block wb _)).mono ?_; rintro e w1 ⟨rfl, rfl⟩))
  all_goals
    go_wp2_with fail
    go_ret
    refine ⟨rfl, HF.out.trans (T := []) ?_ (by simp)⟩
    with_reducible (repeat (first | exact Fr.refl _ _ | refine Fr.drew ?_ | refine Fr.alloc ?_ _))
end Go.Proofs.Ytcieokfjkfpajaa
