/- CONTRACT OF impostlaw02.do -/
import Derived.Test.YtkampbbginamhaaSlabRefNew
namespace Go.Proofs.Ytkampbbginamhaa
open Go.RowKit
set_option linter.unusedVariables false
set_option linter.unusedSimpArgs false

def toldV (L : List Int) (n : Int) : Int := if L.length ≤ n then 0 else L.getD (L.length - 1 - n.toNat) 0
theorem told_any (w : World) (n : Int) {v : Value} {L : List Int} (h : Lies w 38 1 v L.length (L.map (Value.int .u64))) (h0 : 0 ≤ n) (h1 : n ≤ 255) (hl : L.length ≤ 1000000) :
    Calls Try.prog 20 #[v, .int .u8 n] w fun e w' => e = .returned (.int .u64 (toldV L n)) ∧ w = w' := by
  obtain ⟨n, rfl⟩ := Int.eq_ofNat_of_zero_le h0
  by_cases hn : L.length ≤ n
  · obtain ⟨a, c, rfl, _⟩ := h.form
    have HV : Hid (toldV L n = 0) := Lib.hid (by rw [toldV, if_pos (by omega)])
    have t1 : decide (L.length ≤ n) = true := by simpa using hn
    clear h
    go_enter Try.func20, Try.ntmps20
    go_wp2
    go_ret
    exact ⟨by rw [HV.out]; rfl, rfl⟩
  · obtain ⟨g, o, c, rfl, hg, hc, hat⟩ := h.here (by omega)
    have t1 : decide (L.length ≤ n) = false := by simpa using hn
    obtain ⟨j, hj⟩ : ∃ j, j = L.length - 1 - n := ⟨_, rfl⟩
    have hj' : (L.length : Int) - 1 - n = j := by omega
    have hjl : j < L.length := by omega
    obtain ⟨c1, _⟩ := hat j (by omega)
    rw [List.getElem?_map, List.getElem?_eq_getElem hjl] at c1
    simp only [Option.map_some] at c1
    obtain ⟨y, hy⟩ : ∃ y, y = L[j] := ⟨_, rfl⟩
    rw [← hy] at c1
    have HV : Hid (toldV L n = y) := Lib.hid (by rw [toldV, if_neg (by omega), Int.toNat_natCast, ← hj, List.getD_eq_getElem?_getD, List.getElem?_eq_getElem hjl, hy]; rfl)
    have hjn : n = L.length - 1 - j := by omega
    have HL : L.length = j + n + 1 := by omega
    clear h hat hj hy hjn
    generalize L.length = m at *
    have hx1 : ((m : Int) - 1 - n) = j := hj'
    clear hj'
    go_enter Try.func20, Try.ntmps20
    go_wp2
    go_ret
    exact ⟨by rw [HV.out]; rfl, rfl⟩

/-- a slab, its cells, that of the document, and what was told -/
def SBoth (w : World) (V : Value) (FT : List Nat) (N K : Nat) (s : SS) (L : List Int) : Prop :=
  ∃ p pm mv rv fv n mx gx tx fx k lv, V = .agg #[.pointer (some ⟨p, 0, none⟩), .pointer (some ⟨pm, 0, none⟩), mx, .int .i64 k, .int .i64 s.first, .int .i64 s.words, gx, tx, fx, lv] ∧ FT = SlabAt.foot p pm mv rv fv ∧
    SlabAt w p pm mv rv fv n s ∧ n ≤ N ∧ RefF w mx gx tx fx k K s ∧ Lies w 38 1 lv L.length (L.map (Value.int .u64)) ∧ (∀ b, (b ∈ blks (refAgg mx gx tx fx k s) ∨ lv.ownBlock = some b) → b ∉ FT)
def DoOut (w : World) (FT : List Nat) (N K : Nat) (s : SS) (L : List Int) (e : Ending) (w' : World) : Prop :=
  ∃ V' FT', e = .returned (.tuple #[V', .bool true]) ∧ SBoth w' V' FT' N K s L ∧ Fr FT w w' ∧ ∀ k ∈ FT', k ∈ FT ∨ w.heap.size ≤ k

def SS.deedR (L : List Int) (kind n raw : Int) : Int := if 4 < kind ∨ kind < 1 then raw else toldV L n
def SS.deedS (s : SS) (L : List Int) (kind i n v raw : Int) : SS :=
  if kind = 1 then s.alloc else if kind = 2 ∨ kind = 5 then s.free (SS.deedR L kind n raw) else
  if kind = 4 then (if s.cellE (SS.deedR L kind n raw) i = 0 then { s with c := s.c.set (s.cellV (SS.deedR L kind n raw) i).toNat v } else s) else s
def SS.deedL (s : SS) (L : List Int) (kind : Int) : List Int := if kind = 1 ∧ s.allocE = 0 then L ++ [s.allocV] else L

end Go.Proofs.Ytkampbbginamhaa
