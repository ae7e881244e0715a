/- LAYER 13's LAW: its own ops; THE DOCUMENT's comparison of answers: contracts -/
import Derived.Test.YtmipllkgioakoaaGreatFrMod
namespace Go.Proofs.YtmipllkgioakoaaGreat
open Go.RowKit
set_option linter.unusedVariables false
set_option linter.unusedSimpArgs false

theorem map_take_snoc4 {α β : Type} {l : List α} {j : Nat} {x : α} (f : α → β) (hx : l[j]? = some x) : (l.take (j + 1)).map f = (l.take j).map f ++ [f x] := by
  rw [List.take_add_one, hx, List.map_append]; rfl
set_option maxHeartbeats 4000000 in
theorem fops_any (ev : Value) (l : List Ev) (w : World) (hl : EvIn w ev l) (bl : l.length ≤ many) : Calls Tryz.prog 18 #[ev] w fun e w' =>
    ∃ v, e = .returned v ∧ OutAt Od.cells 87 3 w w' v (l.map Ev.od) ∧ Fr [] w w' := by
  unfold many at bl
  obtain ⟨s1, c1, rfl, la, ma⟩ := LIn.form hl
  unfold maxLen at ma
  have HL := Lib.hid hl
  clear hl
  go_enter Tryz.func18, Tryz.ntmps18
  go_wp2_with fail
  go_loopw [3, 4] (fun v i wr => ∃ (j : Nat) (o : List Od), i = .int .i64 j ∧ j ≤ l.length ∧ OutAt Od.cells 87 3 w wr v o ∧ o = (l.take j).map Ev.od ∧ Fr [] w wr) (fun _ i _ => l.length - (intOf i).toNat)
  case atStart => exact ⟨0, [], rfl, Nat.zero_le _, OutAt.nil _ _, rfl, Fr.refl _ _⟩
  case round =>
    obtain ⟨j, o, rfl, hj, ho, hs, hf⟩ := hrel
    have hol : o.length ≤ j := by rw [hs, List.length_map, List.length_take]; omega
    obtain ⟨s3, c3, rfl, _, _⟩ := LAt.form ho.lies
    have HOO := Lib.hid ho
    have HSS := Lib.hid hs
    have HF := Lib.hid hf
    clear ho hs hf
    by_cases h : j < l.length
    · obtain ⟨x, hx⟩ : ∃ x, l[j]? = some x := ⟨_, List.getElem?_eq_getElem h⟩
      obtain ⟨g, off, d1, e1, hg, l1, k1⟩ := EvIn.here (LIn.keep0 HL.out HF.out) (by omega)
      cases e1
      obtain ⟨p0, p1, p2, p3⟩ := k1 j x hx
      have HSN := Lib.hid (map_take_snoc4 Ev.od hx)
      have t2 : decide (j < l.length) = true := by simpa using h
      have t3 : (j : Int) < (l.length : Int) := by omega
      have n3 : ¬ g = wr.heap.size := by omega
      have n4 : ¬ wr.heap.size = g := by omega
      have n5 : g < wr.heap.size := hg
      have hsz := HF.out.size
      clear hx k1
      have m1 : ∀ k o, ((wr.drewN k).alloc o).cell? ⟨g, off + j * 4 + 1, none⟩ = some (.string x.key) := fun k o => (((Fr.refl [] wr).drewN k).alloc o).cell p1 (by simp)
      have m2 : ∀ k o, ((wr.drewN k).alloc o).cell? ⟨g, off + j * 4 + 2, none⟩ = some (.string x.val) := fun k o => (((Fr.refl [] wr).drewN k).alloc o).cell p2 (by simp)
      have m3 : ∀ k o, ((wr.drewN k).alloc o).cell? ⟨g, off + j * 4 + 3, none⟩ = some (.bool x.del) := fun k o => (((Fr.refl [] wr).drewN k).alloc o).cell p3 (by simp)
      go_wp2_with fail
      go_region_law
        ((refine step_append_any (by rfl) (.tmp 11) (.tmp 28) 33 87 (.agg #[.string ⟨#[]⟩, .string ⟨#[]⟩, .bool false]) 3 40 (by rfl) od_slice od_info rfl (by decide) (.slice s3 o.length c3) o.length (allC Od.cells o) (by rfl) (LAt.keep0 HOO.out.lies (((Fr.refl [] wr).alloc _).drew)) _ 1 (Ev.od x).cells (by rfl) (Lies.drew (lies_row wr 87 (Ev.od x).cells rfl wr.heap.size rfl)) (Ev.od x).cone (by unfold maxLen; omega) (by omega) ?_
          intro v2 w2 ho2 hf2 hn2
          have ha := HOO.out.keep (((Fr.refl [] wr).alloc (.cells #[.string x.key, .string x.val, .bool x.del] 87)).drew)
          have HA := Lib.hid (OutAt.app ha (B := (wr.alloc (.cells #[.string x.key, .string x.val, .bool x.del] 87)).drew.heap.size) (Nat.le_trans hsz (((Fr.refl [] wr).alloc _).drew).size) (xs := [Ev.od x]) (by rw [allC_one]; exact ho2) rfl hn2)
          have HG := Lib.hid (OutAt.fr ha ((HF.out.alloc _).drew) hf2)
          obtain ⟨s4, c4, hv4, _⟩ := ho2.form
          subst hv4
          clear ho2 hf2 hn2 ha))
      all_goals go_wp2_with fail
      all_goals go_roundw
      all_goals first
        | (show _ < _; simp [intOf]; omega)
        | (exact ⟨j + 1, o ++ [Ev.od x], (by go_num), (by omega), HA.out, (by rw [HSN.out, HSS.out]), HG.out⟩)
    · have t2 : decide (j < l.length) = false := by simpa using h
      have HE : Hid (o = l.map Ev.od) := Lib.hid (by rw [HSS.out, List.take_of_length_le (by omega)])
      go_wp2_with fail
      go_ret
      exact ⟨_, rfl, by rw [← HE.out]; exact HOO.out, HF.out⟩
set_option maxHeartbeats 1000000 in
theorem rsame8 (s r h er : Int) (ok : Bool) (a1 a2 : Option Addr) (n1 n2 c1 c2 : Nat) (l : List Kv) (w : World) (h1 : KvIn w (.slice a1 n1 c1) l) (h2 : KvIn w (.slice a2 n2 c2) l) : Calls Tryz.prog 12 #[.agg #[.int .i64 s, .int .i64 r, .int .i64 h, .int .i64 er, .bool ok, .slice a1 n1 c1], .agg #[.int .i64 s, .int .i64 r, .int .i64 h, .int .i64 er, .bool ok, .slice a2 n2 c2]] w fun e w' => e = .returned (.bool true) ∧ Fr [] w w' := by
  have HEV : Hid (∀ X, Fr [] w X → Calls Tryz.prog 30 #[.slice a1 n1 c1, .slice a2 n2 c2] X fun e w' => e = .returned (.bool true) ∧ Fr [] X w') := Lib.hid fun X hX => by
    refine (rkvs_any _ _ l l X (LIn.keep0 h1 hX) (LIn.keep0 h2 hX)).mono ?_
    rintro e w' ⟨rfl, hf⟩
    exact ⟨by rw [(sameB_eq kvB_eq).2 rfl], hf⟩
  have HF : Hid (∀ o1 o2, Fr [] w ((w.alloc o1).alloc o2)) := Lib.hid (fun o1 o2 => ((Fr.refl [] w).alloc o1).alloc o2)
  clear h1 h2
  go_enter Tryz.func12, Tryz.ntmps12
  go_wp2_with (go_at_call 30; refine (HEV.out _ (HF.out _ _)).mono ?_; rintro e w1 ⟨rfl, hf⟩; refine go_stop ?_)
  unfold Stop
  have HZ := Lib.hid ((HF.out _ _).trans hf (by simp))
  clear hf
  go_wp2
  go_ret
  exact ⟨rfl, HZ.out⟩
end Go.Proofs.YtmipllkgioakoaaGreat
