/- PACKAGE txn: byKey, holds: contracts; a map of structs is looked at, with 'ok'
PACKAGE txn: allHold, changing: contracts -/
import Derived.Test.YtmipllkgioakoaaGreatTxAt
import Derived.Test.YtmipllkgioakoaaGreatEvRis
import Derived.Test.YtmipllkgioakoaaGreatEvSel
namespace Go.Proofs.YtmipllkgioakoaaGreat
open Go.RowKit Go.Maps
set_option linter.unusedVariables false
set_option linter.unusedSimpArgs false

/-- v, ok := m[e] -/
theorem MapS.look2 {α : Type} {ag : α → Array Value} {P : Program} {k E t : TypeId} {w : World} {b n : Nat} {M : ByteArray → Option α} (h : MapS ag P k w b n M) (hk : P.underlying k = some .string) (ht : P.underlying t = some (.map k E)) {zc : Array Value} (hz : (zeroValue E).run P w = .ok (.agg zc) w) {e : ByteArray} (he : e.size ≤ maxLen) :
    (Instr.lookup t (.map (some b)) (.string e) true).run P w = .ok (.tuple #[.agg (((M e).map ag).getD zc), .bool (M e).isSome]) w := by
  obtain ⟨D, h, tl⟩ := h
  obtain ⟨v, ps, hrun, hv⟩ := h.look_ok (string_keyed hk) ht hz (zd := .held (.agg zc)) (zp := []) rfl (WideMaps.keyOf_string_mk hk he)
  obtain ⟨_, _, hy⟩ := selfAgg_inv hv
  rw [tl e he] at hy
  have hb : Maps.has D (.string e.data.toList) = (M e).isSome := by
    cases hm : M e with
    | none => exact has_false_of_atKey (fun z => by rw [tl e he, hm]; rfl)
    | some u => exact has_true_of_atKey (y := .held (.agg (ag u))) (fun z => by rw [tl e he, hm]; rfl)
  have : v = .agg (((M e).map ag).getD zc) := by
    cases hm : M e with
    | none => rw [hm] at hy; simp at hy; rw [← hy.1]; rfl
    | some u => rw [hm] at hy; simp at hy; rw [← hy.1]; rfl
  rw [hrun, this, hb]
theorem getK_snoc {m : List Kv} (hs : Srt Kv.key m) {j : Nat} {x : Kv} (hx : m[j]? = some x) (k : ByteArray) : getK k (m.take (j + 1)) = if k = x.key then some x else getK k (m.take j) := by
  have h1 : m.take (j + 1) = m.take j ++ [x] := by rw [List.take_add_one, hx]; rfl
  have hs1 : Srt Kv.key (m.take (j + 1)) := hs.sublist (List.take_sublist _ _)
  have hs0 : Srt Kv.key (m.take j) := hs.sublist (List.take_sublist _ _)
  by_cases hk : k = x.key
  · rw [if_pos hk, getK_srt hs1, h1]
    exact ⟨by simp, hk.symm⟩
  · rw [if_neg hk]
    refine getK_ext hs1 hs0 fun y hy => ?_
    rw [h1, List.mem_append, List.mem_singleton]
    constructor
    · rintro (h | rfl)
      · exact h
      · exact absurd hy.symm hk
    · exact Or.inl
set_option maxHeartbeats 1000000 in
theorem tx_byKey (mv : Value) (m : List Kv) (w : World) (hm : KvIn w mv m) (hs : Srt Kv.key m) (bm : m.length ≤ many) : Calls Tryz.prog 66 #[mv] w fun e w' => ∃ b, e = .returned (.map (some b)) ∧ MapS Kv.ag Tryz.prog 9 w' b m.length (fun k => getK k m) ∧ w.heap.size ≤ b ∧ Fr [] w w' := by
  unfold many at bm
  obtain ⟨s1, c1, rfl, la1, ma1⟩ := LIn.form hm
  unfold maxLen at ma1
  have HK := Lib.hid hm
  have HS := Lib.hid hs
  have hmm := @run_makeMap Tryz.prog
  have HMD := Lib.hid (MapS.made Kv.ag Tryz.prog 9 w)
  clear hm hs
  go_enter Tryz.func66, Tryz.ntmps66
  go_wp2_with fail
  go_loopw [9] (fun i wr => ∃ (j : Nat), i = .int .i64 j ∧ j ≤ m.length ∧ MapS Kv.ag Tryz.prog 9 wr w.heap.size j (fun k => getK k (m.take j)) ∧ Fr [] w wr) (fun i _ => m.length - (intOf i).toNat)
  case atStart => exact ⟨0, rfl, Nat.zero_le _, HMD.out.eq (fun k _ => rfl), (Fr.refl _ _).alloc _⟩
  case round =>
    obtain ⟨j, rfl, hj, hm, hf⟩ := hrel
    have HM := Lib.hid hm
    have HF := Lib.hid hf
    clear hm hf
    by_cases h : j < m.length
    · obtain ⟨x, hx⟩ : ∃ x, m[j]? = some x := ⟨_, List.getElem?_eq_getElem h⟩
      obtain ⟨g, off, d1, e1, _, l1, k1⟩ := KvIn.here (LIn.keep0 HK.out HF.out) (by omega)
      simp only [Value.slice.injEq] at e1
      obtain ⟨rfl, _, rfl⟩ := e1
      obtain ⟨p0, p1, p2⟩ := k1 j x hx
      have HX := Lib.hid hx
      obtain ⟨w5, hst, hm5, hf5⟩ := (HM.out.keep ((Fr.refl [] wr).alloc (Obj.cells #[.string x.key, .string x.val, .int .i64 x.rev] 83)) (by simp)).store str_key map_kv (by unfold maxLen; omega) x.wf.1 x
      simp only [Kv.ag] at hst
      have HM5 := Lib.hid hm5
      have HF5 := Lib.hid ((HF.out.alloc _).trans hf5 (by simp))
      have t1 : decide (j < m.length) = true := by simpa using h
      clear hx k1 hm5 hf5
      go_wp2_with fail
      go_roundw
      case rel => exact ⟨j + 1, by go_num, by omega, HM5.out.eq (fun k _ => getK_snoc HS.out HX.out k), HF5.out⟩
      case measure => simp [intOf]; omega
    · have t1 : decide (j < m.length) = false := by simpa using h
      have hj2 : j = m.length := by omega
      subst hj2
      have HM2 : Hid (MapS Kv.ag Tryz.prog 9 wr w.heap.size m.length (fun k => getK k m)) := Lib.hid (by have := HM.out; rw [List.take_length] at this; exact this)
      go_wp2
      go_ret
      exact ⟨_, rfl, HM2.out, Nat.le_refl _, HF.out⟩
/-- does a compare hold of what its key has, if it is there? -/
def hB (c : Cm) (v : ByteArray) (r : Int) (b : Bool) : Bool :=
  if c.kind = 1 then b && decide (v = c.val) else if c.kind = 2 then (if c.rev = 0 then !b else b && decide (r = c.rev)) else false
def kvW (o : Option Kv) : ByteArray × ByteArray × Int := match o with | some x => (x.key, x.val, x.rev) | none => (⟨#[]⟩, ⟨#[]⟩, 0)
theorem oneC_hB (m : List Kv) (c : Cm) : oneC m c = hB c (kvW (getK c.key m)).2.1 (kvW (getK c.key m)).2.2 (getK c.key m).isSome := by
  unfold oneC hB kvW
  cases getK c.key m <;> simp
set_option maxHeartbeats 1000000 in
theorem tx_holds (c : Cm) (k v : ByteArray) (r : Int) (b : Bool) (w : World) : Calls Tryz.prog 76 #[.agg #[.int .i64 c.kind, .string c.key, .string c.val, .int .i64 c.rev], .agg #[.string k, .string v, .int .i64 r], .bool b] w fun e w' =>
    e = .returned (.bool (hB c v r b)) ∧ Fr [] w w' := by
  have HF : Hid (Fr [] w ((w.alloc (.cells #[.int .i64 c.kind, .string c.key, .string c.val, .int .i64 c.rev] 126)).alloc (.cells #[.string k, .string v, .int .i64 r] 83))) := Lib.hid (((Fr.refl [] w).alloc _).alloc _)
  go_enter Tryz.func76, Tryz.ntmps76
  by_cases h1 : c.kind = 1
  · have t1 : (c.kind == 1) = true := by simpa using h1
    have HE : Hid (hB c v r b = (b && decide (v = c.val))) := Lib.hid (by unfold hB; rw [if_pos h1])
    clear h1
    cases b
    · go_wp2
      go_ret
      exact ⟨by rw [HE.out]; rfl, HF.out⟩
    · by_cases hv : v = c.val
      · have t2 : (v.toList == c.val.toList) = true := by simpa using congrArg ByteArray.toList hv
        subst hv
        go_wp2
        go_ret
        exact ⟨by rw [HE.out]; simp, HF.out⟩
      · have t2 : (v.toList == c.val.toList) = false := by
          rw [beq_eq_false_iff_ne]; intro e; exact hv (bs_inj e)
        go_wp2
        go_ret
        exact ⟨by rw [HE.out]; simp [hv], HF.out⟩
  · have t1 : (c.kind == 1) = false := by simpa using h1
    by_cases h2 : c.kind = 2
    · have t2 : (c.kind == 2) = true := by simpa using h2
      by_cases h3 : c.rev = 0
      · have t3 : (c.rev == 0) = true := by simpa using h3
        have HE : Hid (hB c v r b = !b) := Lib.hid (by unfold hB; rw [if_neg h1, if_pos h2, if_pos h3])
        clear h1 h2 h3
        go_wp2
        go_ret
        exact ⟨by rw [HE.out]; rfl, HF.out⟩
      · have t3 : (c.rev == 0) = false := by simpa using h3
        have HE : Hid (hB c v r b = (b && decide (r = c.rev))) := Lib.hid (by unfold hB; rw [if_neg h1, if_pos h2, if_neg h3])
        clear h1 h2 h3
        cases b
        · go_wp2
          go_ret
          exact ⟨by rw [HE.out]; rfl, HF.out⟩
        · go_wp2
          go_ret
          exact ⟨by rw [HE.out]; rfl, HF.out⟩
    · have t2 : (c.kind == 2) = false := by simpa using h2
      have HE : Hid (hB c v r b = false) := Lib.hid (by unfold hB; rw [if_neg h1, if_neg h2])
      clear h1 h2
      go_wp2
      go_ret
      exact ⟨by rw [HE.out]; rfl, HF.out⟩
end Go.Proofs.YtmipllkgioakoaaGreat
namespace Go.Proofs.YtmipllkgioakoaaGreat
open Go.RowKit Go.Maps
set_option linter.unusedVariables false
set_option linter.unusedSimpArgs false

/-- a key is looked for -/
theorem look_kv {w : World} {b n : Nat} {m : List Kv} (h : MapS Kv.ag Tryz.prog 9 w b n (fun k => getK k m)) (e : ByteArray) (he : e.size ≤ maxLen) : ∃ k v r is,
    (Instr.lookup 96 (.map (some b)) (.string e) true).run Tryz.prog w = .ok (.tuple #[.agg #[.string k, .string v, .int .i64 r], .bool is]) w ∧ is = (getK e m).isSome ∧ ∀ c : Cm, c.key = e → oneC m c = hB c v r is := by
  have hlk := h.look2 (t := 96) (E := 83) str_key map_kv (zero_kv w) he
  refine ⟨(kvW (getK e m)).1, (kvW (getK e m)).2.1, (kvW (getK e m)).2.2, (getK e m).isSome, ?_, rfl, fun c hc => by rw [oneC_hB, hc]⟩
  rw [hlk]
  cases getK e m <;> rfl
theorem all_take {p : Cm → Bool} {l : List Cm} {j : Nat} {x : Cm} (hx : l[j]? = some x) : (l.take (j + 1)).all p = ((l.take j).all p && p x) := by
  rw [List.take_add_one, hx, List.all_append]; simp
theorem all_no {p : Cm → Bool} {l : List Cm} {j : Nat} {x : Cm} (hx : l[j]? = some x) (h : p x = false) : l.all p = false := by
  rw [List.all_eq_false]
  exact ⟨x, List.mem_of_getElem? hx, by simp [h]⟩
set_option maxHeartbeats 1000000 in
theorem tx_allHold (b n : Nat) (m : List Kv) (lv : Value) (l : List Cm) (w : World) (hm : MapS Kv.ag Tryz.prog 9 w b n (fun k => getK k m)) (hl : CmIn w lv l) (bl : l.length ≤ many) : Calls Tryz.prog 67 #[.map (some b), lv] w fun e w' => e = .returned (.bool (holdsC m l)) ∧ Fr [] w w' := by
  unfold many at bl
  obtain ⟨s1, c1, rfl, la, ma⟩ := LIn.form hl
  unfold maxLen at ma
  have HL := Lib.hid hl
  have HM := Lib.hid hm
  clear hl hm
  go_enter Tryz.func67, Tryz.ntmps67
  go_wp2_with fail
  go_loopw [11] (fun i wr => ∃ (j : Nat), i = .int .i64 j ∧ j ≤ l.length ∧ (l.take j).all (oneC m) = true ∧ Fr [] w wr) (fun i _ => l.length - (intOf i).toNat)
  case atStart => exact ⟨0, rfl, Nat.zero_le _, by simp, Fr.refl _ _⟩
  case round =>
    obtain ⟨j, rfl, hj, hs, hf⟩ := hrel
    have HS := Lib.hid hs
    have HF := Lib.hid hf
    clear hs hf
    by_cases h : j < l.length
    · obtain ⟨x, hx⟩ : ∃ x, l[j]? = some x := ⟨_, List.getElem?_eq_getElem h⟩
      obtain ⟨g, off, d1, e1, _, l1, k1⟩ := CmIn.here (LIn.keep0 HL.out HF.out) (by omega)
      simp only [Value.slice.injEq] at e1
      obtain ⟨rfl, _, rfl⟩ := e1
      obtain ⟨p0, p1, p2, p3⟩ := k1 j x hx
      have HX := Lib.hid hx
      obtain ⟨k, v, r, is, hlk, his, hO⟩ := look_kv ((HM.out.keep HF.out (by simp)).keep ((Fr.refl [] wr).alloc (Obj.cells #[.int .i64 x.kind, .string x.key, .string x.val, .int .i64 x.rev] 126)) (by simp)) x.key x.wf.1
      have HO := Lib.hid (hO x rfl)
      have t1 : decide (j < l.length) = true := by simpa using h
      clear hx k1 hO his
      go_wp2_with (go_at_call 76; refine (tx_holds x k v r is _).mono ?_; rintro e wn ⟨rfl, hfn⟩; refine go_stop ?_)
      unfold Stop
      rw [← HO.out]
      have HF2 : Hid (Fr [] w wn) := Lib.hid (((HF.out.alloc _).alloc _).trans hfn (by simp))
      clear hfn hlk p0 p1 p2 p3
      cases hB2 : oneC m x
      · have HR : Hid (holdsC m l = false) := Lib.hid (all_no HX.out hB2)
        clear hB2 HO
        go_wp2
        go_ret
        exact ⟨by rw [HR.out]; rfl, HF2.out⟩
      · have HT : Hid ((l.take (j + 1)).all (oneC m) = true) := Lib.hid (by rw [all_take HX.out, HS.out, hB2]; rfl)
        clear hB2 HO
        go_wp2_with fail
        go_roundw
        case rel => exact ⟨j + 1, by go_num, by omega, HT.out, HF2.out⟩
        case measure => simp [intOf]; omega
    · have t1 : decide (j < l.length) = false := by simpa using h
      have hj2 : j = l.length := by omega
      subst hj2
      have HR : Hid (holdsC m l = true) := Lib.hid (by have := HS.out; rw [List.take_length] at this; exact this)
      go_wp2
      go_ret
      exact ⟨by rw [HR.out]; rfl, HF.out⟩
set_option maxHeartbeats 1000000 in
set_option maxRecDepth 100000 in
theorem tx_changing (b n : Nat) (m : List Kv) (lv : Value) (l : List Od) (w : World) (hm : MapS Kv.ag Tryz.prog 9 w b n (fun k => getK k m)) (hl : OdIn w lv l) (bl : l.length ≤ many) : Calls Tryz.prog 68 #[.map (some b), lv] w fun e w' =>
    ∃ v, e = .returned v ∧ OutAt Od.cells 87 3 w w' v (l.filter (keepO m)) ∧ Fr [] w w' := by
  unfold many at bl
  obtain ⟨s1, c1, rfl, la, ma⟩ := LIn.form hl
  unfold maxLen at ma
  have HL := Lib.hid hl
  have HM := Lib.hid hm
  clear hl hm
  go_enter Tryz.func68, Tryz.ntmps68
  go_wp2_with fail
  go_loopw [5, 12] (fun v i wr => ∃ (j : Nat) (o : List Od), i = .int .i64 j ∧ j ≤ l.length ∧ OutAt Od.cells 87 3 w wr v o ∧ o ++ (l.drop j).filter (keepO m) = l.filter (keepO m) ∧ o.length ≤ j ∧ Fr [] w wr) (fun _ i _ => l.length - (intOf i).toNat)
  case atStart => exact ⟨0, [], rfl, Nat.zero_le _, OutAt.nil _ _, rfl, Nat.zero_le _, Fr.refl _ _⟩
  case round =>
    obtain ⟨j, o, rfl, hj, ho, hs, hol, hf⟩ := hrel
    have HO := Lib.hid ho
    have HS := Lib.hid hs
    have HF := Lib.hid hf
    clear ho hs hf
    by_cases h : j < l.length
    · obtain ⟨x, hx⟩ : ∃ x, l[j]? = some x := ⟨_, List.getElem?_eq_getElem h⟩
      obtain ⟨g, off, d1, e1, _, l1, k1⟩ := OdIn.here (LIn.keep0 HL.out HF.out) (by omega)
      simp only [Value.slice.injEq] at e1
      obtain ⟨rfl, _, rfl⟩ := e1
      obtain ⟨p0, p1, p2⟩ := k1 j x hx
      obtain ⟨dd, hdd⟩ : ∃ d, x.del = d := ⟨_, rfl⟩
      rw [hdd] at p2
      have HY : Hid (x.cells = [.string x.key, .string x.val, .bool dd]) := Lib.hid (by unfold Od.cells; rw [hdd])
      have HSTEP := Lib.hid (filt_step (p := keepO m) hx)
      obtain ⟨k, v, r, is, hlk, his, _⟩ := look_kv ((HM.out.keep HF.out (by simp)).keep ((Fr.refl [] wr).alloc (Obj.cells #[.string x.key, .string x.val, .bool dd] 87)) (by simp)) x.key x.wf.1
      have HK : Hid (keepO m x = (is || !dd)) := Lib.hid (by unfold keepO; rw [his, hdd])
      have t1 : decide (j < l.length) = true := by simpa using h
      have HON := Lib.hid (HO.out.keep (((Fr.refl [] wr).alloc (.cells #[.string x.key, .string x.val, .bool dd] 87)).alloc (.cells #[.string k, .string v, .int .i64 r] 83)))
      have HN := Lib.hid ((HF.out.alloc (.cells #[.string x.key, .string x.val, .bool dd] 87)).alloc (.cells #[.string k, .string v, .int .i64 r] 83))
      clear hx k1 his hdd
      cases hor : (is || !dd)
      · have HKP : Hid (keepO m x = false) := Lib.hid (by rw [HK.out, hor])
        obtain ⟨rfl, rfl⟩ : is = false ∧ dd = true := by revert hor; cases is <;> cases dd <;> simp
        clear hor HK
        go_wp2_with fail
        go_roundw
        case rel =>
          refine ⟨j + 1, o, by go_num, by omega, HON.out, ?_, by omega, HN.out⟩
          have h2 := HSTEP.out
          rw [HKP.out, if_neg (by simp), List.nil_append] at h2
          rw [← HS.out, h2]
        case measure => simp [intOf]; omega
      · have HKP : Hid (keepO m x = true) := Lib.hid (by rw [HK.out, hor])
        clear HK
        have hcs : is = true ∨ (is = false ∧ dd = false) := by revert hor; cases is <;> cases dd <;> simp
        clear hor
        rcases hcs with rfl | ⟨rfl, rfl⟩
        · go_wp2_with (at_builtin; refine wpList_append_any rfl (.tmp 29) (.tmp 31) 33 87 (.agg #[.string ⟨#[]⟩, .string ⟨#[]⟩, .bool false]) 3 40 rfl od_slice od_info rfl (by decide) _ o.length (allC Od.cells o) rfl (HON.out.lies.keep0 ((Fr.refl [] _).alloc _)) _ 1 [.string x.key, .string x.val, .bool dd] rfl (lies_row ((wr.alloc (.cells #[.string x.key, .string x.val, .bool dd] 87)).alloc (.cells #[.string k, .string v, .int .i64 r] 83)) 87 [.string x.key, .string x.val, .bool dd] rfl _ (by simp)) (by rw [← HY.out]; exact x.cone) (by unfold maxLen; omega) (by omega) ?app)
          case app =>
          intro v' w' h1 h2 h3
          have ha := HON.out.keep ((Fr.refl [] _).alloc (.cells [.string x.key, .string x.val, .bool dd].toArray 87))
          have HA := Lib.hid (OutAt.app ha (by have := HF.out.size; simp; omega) (xs := [x]) (by rw [allC_one, HY.out]; exact h1) rfl h3)
          have HG := Lib.hid (OutAt.fr ha (HN.out.alloc _) h2)
          clear h1 h2 h3 ha
          go_wp2_with fail
          go_roundw
          case rel =>
            refine ⟨j + 1, o ++ [x], by go_num, by omega, HA.out, ?_, by simp; omega, HG.out⟩
            have h2 := HSTEP.out
            rw [HKP.out, if_pos rfl] at h2
            rw [← HS.out, h2, List.append_assoc]
          case measure => simp [intOf]; omega
        · go_wp2_with (at_builtin; refine wpList_append_any rfl (.tmp 29) (.tmp 31) 33 87 (.agg #[.string ⟨#[]⟩, .string ⟨#[]⟩, .bool false]) 3 40 rfl od_slice od_info rfl (by decide) _ o.length (allC Od.cells o) rfl (HON.out.lies.keep0 ((Fr.refl [] _).alloc _)) _ 1 [.string x.key, .string x.val, .bool false] rfl (lies_row ((wr.alloc (.cells #[.string x.key, .string x.val, .bool false] 87)).alloc (.cells #[.string k, .string v, .int .i64 r] 83)) 87 [.string x.key, .string x.val, .bool false] rfl _ (by simp)) (by rw [← HY.out]; exact x.cone) (by unfold maxLen; omega) (by omega) ?app)
          case app =>
          intro v' w' h1 h2 h3
          have ha := HON.out.keep ((Fr.refl [] _).alloc (.cells [.string x.key, .string x.val, .bool false].toArray 87))
          have HA := Lib.hid (OutAt.app ha (by have := HF.out.size; simp; omega) (xs := [x]) (by rw [allC_one, HY.out]; exact h1) rfl h3)
          have HG := Lib.hid (OutAt.fr ha (HN.out.alloc _) h2)
          clear h1 h2 h3 ha
          go_wp2_with fail
          go_roundw
          case rel =>
            refine ⟨j + 1, o ++ [x], by go_num, by omega, HA.out, ?_, by simp; omega, HG.out⟩
            have h2 := HSTEP.out
            rw [HKP.out, if_pos rfl] at h2
            rw [← HS.out, h2, List.append_assoc]
          case measure => simp [intOf]; omega
    · have t1 : decide (j < l.length) = false := by simpa using h
      have hj2 : j = l.length := by omega
      subst hj2
      have HO2 : Hid (OutAt Od.cells 87 3 w wr _ (l.filter (keepO m))) := Lib.hid (by have := HS.out; rw [List.drop_length, List.filter_nil, List.append_nil] at this; rw [← this]; exact HO.out)
      go_wp2
      go_ret
      exact ⟨_, rfl, HO2.out, HF.out⟩
end Go.Proofs.YtmipllkgioakoaaGreat
