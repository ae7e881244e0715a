/- WATCHES AS BYTES, PLAINLY: a token's bytes, and the token of bytes; its laws. No memory here. -/
import Derived.Test.YtcaildjmpeefbaaBytes
namespace Go.Proofs.Ytcaildjmpeefbaa
open Go.RowKit
set_option linter.unusedVariables false
set_option linter.unusedSimpArgs false

/-- a token -/
structure Tk where
  f : ByteArray
  t : ByteArray
  next : Int
  once : Bool
def Tk.zero : Tk := ⟨⟨#[]⟩, ⟨#[]⟩, 0, false⟩
def tkBa (x : Bs) : ByteArray := ⟨x.toArray⟩
theorem tkBa_list (x : ByteArray) : tkBa x.toList = x := by rw [ByteArray.toList_eq]; cases x; simp [tkBa]
theorem list_tkBa (x : Bs) : (tkBa x).toList = x := by rw [ByteArray.toList_eq]; simp [tkBa]
theorem tk_len (k : ByteArray) : k.toList.length = k.size := by rw [ByteArray.toList_eq, Array.length_toList]; rfl
def tkLow (n : Nat) : UInt8 := UInt8.ofNat (n % 256)
theorem tkLow_nat (n : Nat) : (tkLow n).toNat = n % 256 := by unfold tkLow; rw [UInt8.toNat_ofNat']; omega
def tkHi (n : Int) : UInt8 := tkLow ((n % 65536).toNat / 256)
def tkLo (n : Int) : UInt8 := tkLow ((n % 65536).toNat)
def tkKind (o : Bool) : UInt8 := if o then 111 else 119
/-- its bytes -/
def putT (T : Tk) : Bs := tkKind T.once :: tkHi T.next :: tkLo T.next :: tkLow T.f.size :: (T.f.toList ++ tkLow T.t.size :: T.t.toList)
def mayT (T : Tk) : Bool := mayRangeB T.f.toList T.t.toList && decide (1 ≤ T.next) && decide (T.next ≤ 1001)
/-- what bytes say, if they are a token's -/
def parseT : Bs → Option Tk
  | a :: b :: c :: d :: r => if d.toNat < r.length then some ⟨tkBa (r.take d.toNat), tkBa (r.drop (d.toNat + 1)), 256 * b.toNat + c.toNat, decide (a = 111)⟩ else none
  | _ => none
def takeT (s : Bs) : Option Tk :=
  match parseT s with
  | some T => if mayT T && decide (putT T = s) then some T else none
  | none => none
theorem mayT_size {T : Tk} (h : mayT T = true) : T.f.size ≤ 8 ∧ T.t.size ≤ 9 ∧ 1 ≤ T.next ∧ T.next ≤ 1001 := by
  unfold mayT mayRangeB at h
  simp only [Bool.and_eq_true, Bool.or_eq_true, decide_eq_true_eq, tk_len] at h
  obtain ⟨⟨⟨⟨_, h1⟩, h2⟩, h3⟩, h4⟩ := h
  refine ⟨h1, ?_, h3, h4⟩
  rcases h2 with h2 | h2
  · omega
  · omega
theorem take_some {s : Bs} {T : Tk} (h : takeT s = some T) : mayT T = true ∧ putT T = s := by
  unfold takeT at h
  split at h
  · split at h
    · rename_i h1
      cases h
      simp only [Bool.and_eq_true, decide_eq_true_eq] at h1
      exact h1
    · cases h
  · cases h
/-- what may be is taken as it was put -/
theorem parse_put {T : Tk} (h : mayT T = true) : parseT (putT T) = some T := by
  obtain ⟨h1, h2, h3, h4⟩ := mayT_size h
  have hf : (tkLow T.f.size).toNat = T.f.toList.length := by rw [tkLow_nat, tk_len]; omega
  have e1 : tkBa T.f.toList = T.f := tkBa_list _
  have e2 : (List.drop (T.f.toList.length + 1) (T.f.toList ++ tkLow T.t.size :: T.t.toList)) = T.t.toList := by
    rw [List.drop_append]
    simp
  have e3 : (256 * ((tkHi T.next).toNat : Int) + ((tkLo T.next).toNat : Int)) = T.next := by
    unfold tkHi tkLo
    rw [tkLow_nat, tkLow_nat]
    omega
  have e4 : decide (tkKind T.once = 111) = T.once := by unfold tkKind; cases T.once <;> decide
  have hr : parseT (putT T) = if (tkLow T.f.size).toNat < (T.f.toList ++ tkLow T.t.size :: T.t.toList).length then some ⟨tkBa ((T.f.toList ++ tkLow T.t.size :: T.t.toList).take (tkLow T.f.size).toNat), tkBa ((T.f.toList ++ tkLow T.t.size :: T.t.toList).drop ((tkLow T.f.size).toNat + 1)), 256 * (tkHi T.next).toNat + (tkLo T.next).toNat, decide (tkKind T.once = 111)⟩ else none := rfl
  rw [hr, hf, if_pos (by simp), List.take_left, e1, e2, e3, e4, tkBa_list]
theorem take_put {T : Tk} (h : mayT T = true) : takeT (putT T) = some T := by
  unfold takeT
  rw [parse_put h]
  simp [h]
theorem put_inj {T U : Tk} (h : mayT T = true) (k : mayT U = true) (he : putT T = putT U) : T = U := by
  have h1 := take_put h
  rw [he, take_put k] at h1
  exact (Option.some.inj h1).symm
/-- with a byte more it is none -/
theorem take_more {s : Bs} {T : Tk} (h : takeT s = some T) (b : UInt8) : takeT (s ++ [b]) = none := by
  cases hU : takeT (s ++ [b]) with
  | none => rfl
  | some U =>
    exfalso
    obtain ⟨m1, p1⟩ := take_some h
    obtain ⟨m2, p2⟩ := take_some hU
    obtain ⟨t1, t2, _, _⟩ := mayT_size m1
    obtain ⟨u1, u2, _, _⟩ := mayT_size m2
    rw [← p1] at p2
    unfold putT at p2
    simp only [List.cons_append, List.cons.injEq, List.append_assoc] at p2
    obtain ⟨_, _, _, h4, h5⟩ := p2
    have h6 := congrArg UInt8.toNat h4
    rw [tkLow_nat, tkLow_nat] at h6
    have h7 : U.f.toList.length = T.f.toList.length := by rw [tk_len, tk_len]; omega
    obtain ⟨_, h8⟩ := List.append_inj h5 h7
    simp only [List.cons.injEq] at h8
    obtain ⟨h9, h10⟩ := h8
    have h11 := congrArg UInt8.toNat h9
    rw [tkLow_nat, tkLow_nat] at h11
    have h12 := congrArg List.length h10
    rw [List.length_append, tk_len, tk_len] at h12
    simp at h12
    omega
theorem take_less {s : Bs} {b : UInt8} {T : Tk} (h : takeT (s ++ [b]) = some T) : takeT s = none := by
  cases hU : takeT s with
  | none => rfl
  | some U => rw [take_more hU b] at h; cases h
end Go.Proofs.Ytcaildjmpeefbaa
