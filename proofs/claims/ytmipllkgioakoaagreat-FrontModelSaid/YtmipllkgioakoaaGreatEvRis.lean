/- PACKAGE event: rising: what keys have, by keys -/
import Derived.Test.YtmipllkgioakoaaGreatEvFil
import Derived.Test.YtmipllkgioakoaaGreatMapS
import Derived.Test.YtmipllkgioakoaaGreatEvOne
import Derived.Test.YtmipllkgioakoaaGreatIter
namespace Go.Proofs.YtmipllkgioakoaaGreat
open Go.RowKit Go.Maps
set_option linter.unusedVariables false
set_option linter.unusedSimpArgs false

theorem str_key : Tryz.prog.underlying 9 = some .string := Tryz.underlying9
theorem str_slice : Tryz.prog.underlying 106 = some (.slice 9) := Tryz.underlying106
def Ev.ag (x : Ev) : Array Value := #[.int .i64 x.rev, .string x.key, .string x.val, .bool x.del]
def Kv.ag (x : Kv) : Array Value := #[.string x.key, .string x.val, .int .i64 x.rev]
theorem map_ev : Tryz.prog.underlying 103 = some (.map 9 63) := Tryz.underlying103
theorem zero_ev (w : World) : (zeroValue 63).run Tryz.prog w = .ok (.agg #[.int .i64 0, .string ⟨#[]⟩, .string ⟨#[]⟩, .bool false]) w := by kernel_rfl
set_option maxHeartbeats 2000000 in
theorem rising_ev (b n : Nat) (M : ByteArray → Option Ev) (w : World) (hm : MapS Ev.ag Tryz.prog 9 w b n M) (hn : n ≤ many + many) (hk : ∀ k x, M k = some x → x.key = k) : Calls Tryz.prog 56 #[.map (some b)] w fun e w' =>
    ∃ v o, e = .returned v ∧ EvIn w' v o ∧ Srt Ev.key o ∧ (∀ x, x ∈ o ↔ M x.key = some x) ∧ Fr [] w w' ∧ ∀ k, v.ownBlock = some k → w.heap.size ≤ k := by
  unfold many at hn
  have HM := Lib.hid hm
  have HK := Lib.hid hk
  obtain ⟨D, hown, hsz, hks⟩ := hm.keys str_key
  have HKS := Lib.hid hks
  have HB : Hid (b < w.heap.size) := Lib.hid hm.lt
  clear hm hk hks
  go_enter Tryz.func56, Tryz.ntmps56
  go_wp2_with (first
    | (go_at_call 71; refine (callsIn_wide.1 (Tryz.maps_Keys_71 _ _)).mono ?_; rintro e w1 ⟨rfl, rfl⟩)
    | (go_at_call 69; refine (callsIn_wide.1 (Tryz.slices_Sorted_keys_69_71 b n D selfAgg w hown (by unfold maxLen; omega) (by omega))).mono ?_; rintro e w2 ⟨v2, ss, rfl, hperm, hrow, hnil, hbel⟩; refine go_stop ?_))
  unfold Stop
  obtain ⟨ks, hkeys, hmap, hlen, hssn⟩ := HKS.out ss hperm
  rw [hmap, ← hlen] at hrow
  rw [← hlen] at hssn
  have hlies := Lies.of_own (hrow.mono (Nat.zero_le _))
  have HF0 : Hid (Fr [] w w2) := Lib.hid (((Fr.refl [] w).alloc _).trans (Fr.of_below hbel) (by simp))
  have HR := Lib.hid hlies
  have HKE := Lib.hid hkeys
  obtain ⟨s1, c1, rfl, la, ma⟩ := hlies.form
  unfold maxLen at ma
  clear hperm hrow hnil hbel hmap hkeys hlies hlen hown hsz HKS
  go_wp2_with fail
  go_loopw [3, 10] (fun v i wr => ∃ (j : Nat) (o : List Ev), i = .int .i64 j ∧ j ≤ ks.length ∧ OutAt Ev.cells 63 4 w2 wr v o ∧ (o.map Ev.key = ks.take j ∧ ∀ x ∈ o, M x.key = some x) ∧ o.length ≤ j ∧ Fr [] w2 wr) (fun _ i _ => ks.length - (intOf i).toNat)
  case atStart => exact ⟨0, [], rfl, Nat.zero_le _, OutAt.nil _ _, ⟨rfl, by simp⟩, Nat.zero_le _, Fr.refl _ _⟩
  case round =>
    obtain ⟨j, o, rfl, hj, ho, hs, hol, hf⟩ := hrel
    have HO := Lib.hid ho
    have HS := Lib.hid hs
    have HF := Lib.hid hf
    clear ho hs hf
    by_cases h : j < ks.length
    · obtain ⟨k, hkj⟩ : ∃ k, ks[j]? = some k := ⟨_, List.getElem?_eq_getElem h⟩
      obtain ⟨hk1, hk2⟩ := (HKE.out.mem k).1 (List.mem_of_getElem? hkj)
      obtain ⟨x, hx⟩ := Option.isSome_iff_exists.1 hk2
      have HX := Lib.hid hx
      have HKX := Lib.hid (HK.out k x hx)
      have HKJ := Lib.hid hkj
      have HK1 := Lib.hid hk1
      have HL := Lib.hid (HR.out.keep HF.out (by simp))
      obtain ⟨g, off, d1, e1, _, l1, k1⟩ := HL.out.here (by omega)
      simp only [Value.slice.injEq] at e1
      obtain ⟨rfl, _, rfl⟩ := e1
      have p0 := (k1 j (by omega)).1
      rw [List.getElem?_map, hkj] at p0
      simp only [Option.map_some] at p0
      have HMR := Lib.hid ((HM.out.keep HF0.out (by simp)).keep HF.out (by simp))
      have t1 : decide (j < ks.length) = true := by simpa using h
      clear hx hkj hk1 hk2 k1
      go_wp2_with (at_lookup; refine go_stop ?_)
      unfold Stop
      refine wpList_look_mapS rfl _ _ 103 rfl 9 63 str_key map_ev #[.int .i64 0, .string ⟨#[]⟩, .string ⟨#[]⟩, .bool false] (zero_ev _) b n M rfl HMR.out k rfl HK1.out ?lk
      case lk =>
      intro c hc
      rw [HX.out] at hc
      simp only [Option.map_some, Option.getD_some, Ev.ag] at hc
      subst hc
      go_wp2_with (at_builtin; refine wpList_append_any rfl (.tmp 14) (.tmp 18) 50 63 (.agg #[.int .i64 0, .string ⟨#[]⟩, .string ⟨#[]⟩, .bool false]) 4 48 rfl ev_slice ev_info rfl (by decide) _ o.length (allC Ev.cells o) rfl (HO.out.lies.keep0 ((Fr.refl [] _).alloc _)) _ 1 x.cells rfl (lies_row wr 63 x.cells rfl _ rfl) x.cone (by unfold maxLen; omega) (by omega) ?app)
      case app =>
      intro v' w' h1 h2 h3
      have ha := (HO.out.keep ((Fr.refl [] wr).alloc (.cells x.cells.toArray 63)))
      have HA := Lib.hid (OutAt.app ha (by have := HF.out.size; omega) (xs := [x]) (by rw [allC_one]; exact h1) rfl h3)
      have HG := Lib.hid (OutAt.fr ha (HF.out.alloc _) h2)
      clear h1 h2 h3 ha
      go_wp2_with fail
      go_roundw
      case rel =>
        refine ⟨j + 1, o ++ [x], by go_num, by omega, HA.out, ⟨?_, ?_⟩, by simp; omega, HG.out⟩
        · rw [List.map_append, HS.out.1, take_snoc HKJ.out]
          simp [HKX.out]
        · intro y hy
          rcases List.mem_append.1 hy with hy | hy
          · exact HS.out.2 y hy
          · simp only [List.mem_singleton] at hy
            subst hy
            rw [HKX.out]; exact HX.out
      case measure => simp [intOf]; omega
    · have t1 : decide (j < ks.length) = false := by simpa using h
      go_wp2
      go_ret
      have hsk : o.map Ev.key = ks := by rw [HS.out.1, List.take_of_length_le (by omega)]
      refine ⟨_, o, rfl, LAt.read HO.out.lies Ev.clen, ?_, ?_, HF0.out.trans HF.out (by simp), fun k hk => Nat.le_trans HF0.out.size (HO.out.new k hk)⟩
      · have := HKE.out.srt
        rw [← hsk] at this
        exact (List.pairwise_map.1 this)
      · intro x
        refine ⟨fun hx => HS.out.2 x hx, fun hx => ?_⟩
        have h2 : x.key ∈ o.map Ev.key := by rw [hsk]; exact (HKE.out.mem _).2 ⟨x.wf.1, by rw [hx]; rfl⟩
        obtain ⟨y, hy, hyk⟩ := List.mem_map.1 h2
        have h3 := HS.out.2 y hy
        rw [hyk, hx] at h3
        cases h3; exact hy
theorem map_kv : Tryz.prog.underlying 96 = some (.map 9 83) := Tryz.underlying96
theorem zero_kv (w : World) : (zeroValue 83).run Tryz.prog w = .ok (.agg #[.string ⟨#[]⟩, .string ⟨#[]⟩, .int .i64 0]) w := by kernel_rfl
set_option maxHeartbeats 2000000 in
theorem rising_kv (b n : Nat) (M : ByteArray → Option Kv) (w : World) (hm : MapS Kv.ag Tryz.prog 9 w b n M) (hn : n ≤ many + many) (hk : ∀ k x, M k = some x → x.key = k) : Calls Tryz.prog 51 #[.map (some b)] w fun e w' =>
    ∃ v o, e = .returned v ∧ KvIn w' v o ∧ Srt Kv.key o ∧ (∀ x, x ∈ o ↔ M x.key = some x) ∧ Fr [] w w' ∧ ∀ k, v.ownBlock = some k → w.heap.size ≤ k := by
  unfold many at hn
  have HM := Lib.hid hm
  have HK := Lib.hid hk
  obtain ⟨D, hown, hsz, hks⟩ := hm.keys str_key
  have HKS := Lib.hid hks
  have HB : Hid (b < w.heap.size) := Lib.hid hm.lt
  clear hm hk hks
  go_enter Tryz.func51, Tryz.ntmps51
  go_wp2_with (first
    | (go_at_call 70; refine (callsIn_wide.1 (Tryz.maps_Keys_70 _ _)).mono ?_; rintro e w1 ⟨rfl, rfl⟩)
    | (go_at_call 69; refine (callsIn_wide.1 (Tryz.slices_Sorted_keys_69_70 b n D selfAgg w hown (by unfold maxLen; omega) (by omega))).mono ?_; rintro e w2 ⟨v2, ss, rfl, hperm, hrow, hnil, hbel⟩; refine go_stop ?_))
  unfold Stop
  obtain ⟨ks, hkeys, hmap, hlen, hssn⟩ := HKS.out ss hperm
  rw [hmap, ← hlen] at hrow
  rw [← hlen] at hssn
  have hlies := Lies.of_own (hrow.mono (Nat.zero_le _))
  have HF0 : Hid (Fr [] w w2) := Lib.hid (((Fr.refl [] w).alloc _).trans (Fr.of_below hbel) (by simp))
  have HR := Lib.hid hlies
  have HKE := Lib.hid hkeys
  obtain ⟨s1, c1, rfl, la, ma⟩ := hlies.form
  unfold maxLen at ma
  clear hperm hrow hnil hbel hmap hkeys hlies hlen hown hsz HKS
  go_wp2_with fail
  go_loopw [3, 10] (fun v i wr => ∃ (j : Nat) (o : List Kv), i = .int .i64 j ∧ j ≤ ks.length ∧ OutAt Kv.cells 83 3 w2 wr v o ∧ (o.map Kv.key = ks.take j ∧ ∀ x ∈ o, M x.key = some x) ∧ o.length ≤ j ∧ Fr [] w2 wr) (fun _ i _ => ks.length - (intOf i).toNat)
  case atStart => exact ⟨0, [], rfl, Nat.zero_le _, OutAt.nil _ _, ⟨rfl, by simp⟩, Nat.zero_le _, Fr.refl _ _⟩
  case round =>
    obtain ⟨j, o, rfl, hj, ho, hs, hol, hf⟩ := hrel
    have HO := Lib.hid ho
    have HS := Lib.hid hs
    have HF := Lib.hid hf
    clear ho hs hf
    by_cases h : j < ks.length
    · obtain ⟨k, hkj⟩ : ∃ k, ks[j]? = some k := ⟨_, List.getElem?_eq_getElem h⟩
      obtain ⟨hk1, hk2⟩ := (HKE.out.mem k).1 (List.mem_of_getElem? hkj)
      obtain ⟨x, hx⟩ := Option.isSome_iff_exists.1 hk2
      have HX := Lib.hid hx
      have HKX := Lib.hid (HK.out k x hx)
      have HKJ := Lib.hid hkj
      have HK1 := Lib.hid hk1
      have HL := Lib.hid (HR.out.keep HF.out (by simp))
      obtain ⟨g, off, d1, e1, _, l1, k1⟩ := HL.out.here (by omega)
      simp only [Value.slice.injEq] at e1
      obtain ⟨rfl, _, rfl⟩ := e1
      have p0 := (k1 j (by omega)).1
      rw [List.getElem?_map, hkj] at p0
      simp only [Option.map_some] at p0
      have HMR := Lib.hid ((HM.out.keep HF0.out (by simp)).keep HF.out (by simp))
      have t1 : decide (j < ks.length) = true := by simpa using h
      clear hx hkj hk1 hk2 k1
      go_wp2_with (at_lookup; refine go_stop ?_)
      unfold Stop
      refine wpList_look_mapS rfl _ _ 96 rfl 9 83 str_key map_kv #[.string ⟨#[]⟩, .string ⟨#[]⟩, .int .i64 0] (zero_kv _) b n M rfl HMR.out k rfl HK1.out ?lk
      case lk =>
      intro c hc
      rw [HX.out] at hc
      simp only [Option.map_some, Option.getD_some, Kv.ag] at hc
      subst hc
      go_wp2_with (at_builtin; refine wpList_append_any rfl (.tmp 14) (.tmp 18) 39 83 (.agg #[.string ⟨#[]⟩, .string ⟨#[]⟩, .int .i64 0]) 3 40 rfl kv_slice kv_info rfl (by decide) _ o.length (allC Kv.cells o) rfl (HO.out.lies.keep0 ((Fr.refl [] _).alloc _)) _ 1 x.cells rfl (lies_row wr 83 x.cells rfl _ rfl) x.cone (by unfold maxLen; omega) (by omega) ?app)
      case app =>
      intro v' w' h1 h2 h3
      have ha := (HO.out.keep ((Fr.refl [] wr).alloc (.cells x.cells.toArray 83)))
      have HA := Lib.hid (OutAt.app ha (by have := HF.out.size; omega) (xs := [x]) (by rw [allC_one]; exact h1) rfl h3)
      have HG := Lib.hid (OutAt.fr ha (HF.out.alloc _) h2)
      clear h1 h2 h3 ha
      go_wp2_with fail
      go_roundw
      case rel =>
        refine ⟨j + 1, o ++ [x], by go_num, by omega, HA.out, ⟨?_, ?_⟩, by simp; omega, HG.out⟩
        · rw [List.map_append, HS.out.1, take_snoc HKJ.out]
          simp [HKX.out]
        · intro y hy
          rcases List.mem_append.1 hy with hy | hy
          · exact HS.out.2 y hy
          · simp only [List.mem_singleton] at hy
            subst hy
            rw [HKX.out]; exact HX.out
      case measure => simp [intOf]; omega
    · have t1 : decide (j < ks.length) = false := by simpa using h
      go_wp2
      go_ret
      have hsk : o.map Kv.key = ks := by rw [HS.out.1, List.take_of_length_le (by omega)]
      refine ⟨_, o, rfl, LAt.read HO.out.lies Kv.clen, ?_, ?_, HF0.out.trans HF.out (by simp), fun k hk => Nat.le_trans HF0.out.size (HO.out.new k hk)⟩
      · have := HKE.out.srt
        rw [← hsk] at this
        exact (List.pairwise_map.1 this)
      · intro x
        refine ⟨fun hx => HS.out.2 x hx, fun hx => ?_⟩
        have h2 : x.key ∈ o.map Kv.key := by rw [hsk]; exact (HKE.out.mem _).2 ⟨x.wf.1, by rw [hx]; rfl⟩
        obtain ⟨y, hy, hyk⟩ := List.mem_map.1 h2
        have h3 := HS.out.2 y hy
        rw [hyk, hx] at h3
        cases h3; exact hy
end Go.Proofs.YtmipllkgioakoaaGreat
