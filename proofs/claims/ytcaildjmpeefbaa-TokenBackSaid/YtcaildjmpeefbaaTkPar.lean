/- BYTES PARSED, PART BY PART, PLAINLY: what stands behind its number; the same as what the document says. No memory here. -/
import Derived.Test.YtcaildjmpeefbaaTk
namespace Go.Proofs.Ytcaildjmpeefbaa
open Go.RowKit
set_option linter.unusedVariables false
set_option linter.unusedSimpArgs false

/-- what stands behind how many bytes it has, and the rest -/
def cntP : Bs → Option (Bs × Bs)
  | d :: r => if d.toNat ≤ r.length then some (r.take d.toNat, r.drop d.toNat) else none
  | [] => none
def cntF (l : Bs) : Bs := ((cntP l).getD ([], [])).1
def cntR (l : Bs) : Bs := ((cntP l).getD ([], [])).2
def cntK (l : Bs) : Bool := (cntP l).isSome
theorem cntP_eq (l : Bs) (h : cntK l = true) : cntP l = some (cntF l, cntR l) := by
  unfold cntK at h
  unfold cntF cntR
  cases hc : cntP l with
  | none => rw [hc] at h; cases h
  | some v => rfl
theorem cnt_nil : cntP [] = none := rfl
theorem cnt_cons (d : UInt8) (r : Bs) : cntP (d :: r) = if d.toNat ≤ r.length then some (r.take d.toNat, r.drop d.toNat) else none := rfl
theorem cnt_some {l f r : Bs} (h : cntP l = some (f, r)) : ∃ d, l = d :: (f ++ r) ∧ d.toNat = f.length := by
  cases l with
  | nil => cases h
  | cons d x =>
    rw [cnt_cons] at h
    split at h
    · rename_i hd
      cases h
      exact ⟨d, by rw [List.take_append_drop], by rw [List.length_take]; omega⟩
    · cases h
theorem cnt_put (f r : Bs) (h : f.length < 256) : cntP (tkLow f.length :: (f ++ r)) = some (f, r) := by
  have e : (tkLow f.length).toNat = f.length := by rw [tkLow_nat]; omega
  rw [cnt_cons, e, if_pos (by simp), List.take_left, List.drop_left]
theorem cntR_len (l : Bs) : (cntR l).length ≤ l.length ∧ (cntF l).length ≤ l.length := by
  unfold cntR cntF
  cases hc : cntP l with
  | none => simp
  | some v =>
    obtain ⟨f, r⟩ := v
    obtain ⟨d, h1, h2⟩ := cnt_some hc
    subst h1
    simp
    omega
/-- the token of bytes, and whether there is one -/
def parV (b c : UInt8) (a : UInt8) (x : Bs) : Tk := ⟨tkBa (cntF x), tkBa (cntF (cntR x)), 256 * b.toNat + c.toNat, decide (a = 111)⟩
def parK (x : Bs) : Bool := cntK x && cntK (cntR x) && decide (cntR (cntR x) = [])
def parseP : Bs → Option Tk
  | a :: b :: c :: x => if (a = 119 ∨ a = 111) ∧ parK x = true then some (parV b c a x) else none
  | _ => none
def takeP (s : Bs) : Option Tk :=
  match parseP s with
  | some T => if mayT T then some T else none
  | none => none
theorem size_tkBa (x : Bs) : (tkBa x).size = x.length := by rw [← tk_len, list_tkBa]
theorem hi_lo (b c : UInt8) : tkHi (256 * b.toNat + c.toNat) = b ∧ tkLo (256 * b.toNat + c.toNat) = c := by
  have h1 := b.toNat_lt
  have h2 := c.toNat_lt
  constructor <;> apply UInt8.toNat_inj.1
  · unfold tkHi; rw [tkLow_nat]; omega
  · unfold tkLo; rw [tkLow_nat]; omega
theorem low_len {d : UInt8} {n : Nat} (h : d.toNat = n) : tkLow n = d := by
  apply UInt8.toNat_inj.1
  have := d.toNat_lt
  rw [tkLow_nat]; omega
theorem parse_some {s : Bs} {T : Tk} (h : parseP s = some T) : putT T = s := by
  rcases s with _ | ⟨a, _ | ⟨b, _ | ⟨c, x⟩⟩⟩
  · cases h
  · cases h
  · cases h
  have hr : parseP (a :: b :: c :: x) = if (a = 119 ∨ a = 111) ∧ parK x = true then some (parV b c a x) else none := rfl
  rw [hr] at h
  split at h
  · rename_i hk
    obtain ⟨ha, hk⟩ := hk
    cases h
    unfold parK at hk
    simp only [Bool.and_eq_true, decide_eq_true_eq] at hk
    obtain ⟨⟨k1, k2⟩, k3⟩ := hk
    obtain ⟨d, e1, l1⟩ := cnt_some (cntP_eq _ k1)
    obtain ⟨g, e2, l2⟩ := cnt_some (cntP_eq _ k2)
    rw [k3] at e2
    unfold parV putT
    simp only
    rw [(hi_lo b c).1, (hi_lo b c).2, size_tkBa, size_tkBa, list_tkBa, list_tkBa, low_len l1, low_len l2]
    have e3 : tkKind (decide (a = 111)) = a := by rcases ha with rfl | rfl <;> decide
    rw [e3]
    have e4 : x = d :: (cntF x ++ g :: cntF (cntR x)) := by
      conv => lhs; rw [e1]
      conv => lhs; rw [e2]
      simp
    conv => rhs; rw [e4]
  · cases h
theorem parseP_put {T : Tk} (h : mayT T = true) : parseP (putT T) = some T := by
  obtain ⟨h1, h2, h3, h4⟩ := mayT_size h
  have c1 := cnt_put T.f.toList (tkLow T.t.size :: T.t.toList) (by rw [tk_len]; omega)
  have c2 := cnt_put T.t.toList [] (by rw [tk_len]; omega)
  rw [tk_len] at c1 c2
  rw [List.append_nil] at c2
  have hr : parseP (putT T) = if (tkKind T.once = 119 ∨ tkKind T.once = 111) ∧ parK (tkLow T.f.size :: (T.f.toList ++ tkLow T.t.size :: T.t.toList)) = true then some (parV (tkHi T.next) (tkLo T.next) (tkKind T.once) (tkLow T.f.size :: (T.f.toList ++ tkLow T.t.size :: T.t.toList))) else none := rfl
  have f1 : cntF (tkLow T.f.size :: (T.f.toList ++ tkLow T.t.size :: T.t.toList)) = T.f.toList := by unfold cntF; rw [c1]; rfl
  have r1 : cntR (tkLow T.f.size :: (T.f.toList ++ tkLow T.t.size :: T.t.toList)) = tkLow T.t.size :: T.t.toList := by unfold cntR; rw [c1]; rfl
  have k1 : cntK (tkLow T.f.size :: (T.f.toList ++ tkLow T.t.size :: T.t.toList)) = true := by unfold cntK; rw [c1]; rfl
  have f2 : cntF (tkLow T.t.size :: T.t.toList) = T.t.toList := by unfold cntF; rw [c2]; rfl
  have r2 : cntR (tkLow T.t.size :: T.t.toList) = [] := by unfold cntR; rw [c2]; rfl
  have k2 : cntK (tkLow T.t.size :: T.t.toList) = true := by unfold cntK; rw [c2]; rfl
  have kk : parK (tkLow T.f.size :: (T.f.toList ++ tkLow T.t.size :: T.t.toList)) = true := by unfold parK; rw [k1, r1, k2, r2]; decide
  have e3 : (256 * ((tkHi T.next).toNat : Int) + ((tkLo T.next).toNat : Int)) = T.next := by
    unfold tkHi tkLo
    rw [tkLow_nat, tkLow_nat]
    omega
  have e4 : decide (tkKind T.once = 111) = T.once := by unfold tkKind; cases T.once <;> decide
  have e5 : tkKind T.once = 119 ∨ tkKind T.once = 111 := by unfold tkKind; cases T.once <;> decide
  rw [hr, if_pos ⟨e5, kk⟩]
  unfold parV
  rw [f1, r1, f2, e3, e4, tkBa_list, tkBa_list]
/-- what the program's parse tells: a token, and whether there is one -/
def parRes : Bs → Tk × Bool
  | a :: b :: c :: x => if a = 119 ∨ a = 111 then (parV b c a x, parK x) else (Tk.zero, false)
  | _ => (Tk.zero, false)
theorem takeP_res (s : Bs) : takeP s = if (parRes s).2 = true ∧ mayT (parRes s).1 = true then some (parRes s).1 else none := by
  rcases s with _ | ⟨a, _ | ⟨b, _ | ⟨c, x⟩⟩⟩
  · rfl
  · rfl
  · rfl
  have hr : parseP (a :: b :: c :: x) = if (a = 119 ∨ a = 111) ∧ parK x = true then some (parV b c a x) else none := rfl
  have hq : parRes (a :: b :: c :: x) = if a = 119 ∨ a = 111 then (parV b c a x, parK x) else (Tk.zero, false) := rfl
  unfold takeP
  rw [hr, hq]
  by_cases h1 : a = 119 ∨ a = 111
  · by_cases h2 : parK x = true
    · rw [if_pos ⟨h1, h2⟩, if_pos h1]; simp [h2]
    · rw [if_neg (fun h => h2 h.2), if_pos h1]; simp [h2]
  · rw [if_neg (fun h => h1 h.1), if_neg h1]; simp
/-- the same as the document's -/
theorem takeP_eq (s : Bs) : takeP s = takeT s := by
  cases hT : takeT s with
  | some T =>
    obtain ⟨h1, h2⟩ := take_some hT
    unfold takeP
    rw [← h2, parseP_put h1]
    simp [h1]
  | none =>
    unfold takeP
    cases hp : parseP s with
    | none => rfl
    | some T =>
      have h2 := parse_some hp
      cases hm : mayT T with
      | false => simp [hm]
      | true => rw [← h2, take_put hm] at hT; cases hT
end Go.Proofs.Ytcaildjmpeefbaa
