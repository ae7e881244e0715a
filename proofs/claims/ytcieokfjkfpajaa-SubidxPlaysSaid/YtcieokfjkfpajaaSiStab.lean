/- THE DOCUMENT's WATCHES (impostref11): Stab: contract; that it tells what the program's tells -/
import Derived.Test.YtcieokfjkfpajaaSiRef3
import Derived.Test.YtcieokfjkfpajaaSiEq
namespace Go.Proofs.Ytcieokfjkfpajaa
open Go.RowKit
set_option linter.unusedVariables false
set_option linter.unusedSimpArgs false

def insAt (m : Nat) (x : Int) (o : List Int) : List Int := o.take m ++ x :: o.drop m
def insI (x : Int) (o : List Int) : List Int := o.takeWhile (fun y => decide (y < x)) ++ x :: o.dropWhile (fun y => decide (y < x))
theorem insI_at {x : Int} : ∀ {o : List Int} {m : Nat}, (∀ (i : Nat) (y : Int), i < m → o[i]? = some y → y < x) → m ≤ o.length → (∀ y, o[m]? = some y → ¬ y < x) → insAt m x o = insI x o
  | [], m, _, hm, _ => by
    obtain rfl : m = 0 := by simpa using hm
    rfl
  | z :: o, 0, _, _, h => by
    have hz := h z rfl
    unfold insAt insI
    rw [List.takeWhile_cons_of_neg (by simpa using hz), List.dropWhile_cons_of_neg (by simpa using hz)]
    rfl
  | z :: o, m + 1, h1, hm, h2 => by
    have hz : z < x := h1 0 z (by omega) rfl
    have ih := insI_at (x := x) (o := o) (m := m) (fun i y hi hy => h1 (i + 1) y (by omega) (by simpa using hy)) (by simpa using hm) (fun y hy => h2 y (by simpa using hy))
    unfold insAt insI at ih ⊢
    rw [List.takeWhile_cons_of_pos (by simpa using hz), List.dropWhile_cons_of_pos (by simpa using hz), List.take_succ_cons, List.drop_succ_cons, List.cons_append, List.cons_append, ih]
theorem insI_mem {x : Int} {o : List Int} {y : Int} : y ∈ insI x o ↔ y = x ∨ y ∈ o := by
  unfold insI
  have h := List.takeWhile_append_dropWhile (p := fun y => decide (y < x)) (l := o)
  constructor
  · intro hy
    rcases List.mem_append.1 hy with h1 | h1
    · exact Or.inr (by rw [← h]; exact List.mem_append_left _ h1)
    · rcases List.mem_cons.1 h1 with h1 | h1
      · exact Or.inl h1
      · exact Or.inr (by rw [← h]; exact List.mem_append_right _ h1)
  · rintro (rfl | hy)
    · simp
    · rw [← h] at hy
      rcases List.mem_append.1 hy with h1 | h1
      · exact List.mem_append_left _ h1
      · exact List.mem_append_right _ (List.mem_cons_of_mem _ h1)
theorem insI_strict {x : Int} : ∀ {o : List Int}, o.Pairwise (· < ·) → x ∉ o → (insI x o).Pairwise (· < ·)
  | [], _, _ => by simp [insI]
  | z :: o, h, hx => by
    obtain ⟨h1, h2⟩ := List.pairwise_cons.1 h
    by_cases hz : z < x
    · have e : insI x (z :: o) = z :: insI x o := by
        unfold insI
        rw [List.takeWhile_cons_of_pos (by simpa using hz), List.dropWhile_cons_of_pos (by simpa using hz)]
        rfl
      rw [e]
      refine List.pairwise_cons.2 ⟨fun y hy => ?_, insI_strict h2 fun hm => hx (List.mem_cons_of_mem _ hm)⟩
      rcases insI_mem.1 hy with rfl | hy
      · exact hz
      · exact h1 y hy
    · have e : insI x (z :: o) = x :: z :: o := by
        unfold insI
        rw [List.takeWhile_cons_of_neg (by simpa using hz), List.dropWhile_cons_of_neg (by simpa using hz)]
        rfl
      rw [e]
      have hxz : x < z := by have : x ≠ z := fun e => hx (by rw [e]; exact List.mem_cons_self); omega
      refine List.pairwise_cons.2 ⟨fun y hy => ?_, h⟩
      rcases List.mem_cons.1 hy with rfl | hy
      · exact hxz
      · have := h1 y hy; omega
def stabR (k : Bs) (rev : Int) (P : List Sb) : List Int := P.foldl (fun o s => if Sb.want k rev s = true then insI s.id o else o) []
theorem stabR_snoc (k : Bs) (rev : Int) (P : List Sb) (s : Sb) : stabR k rev (P ++ [s]) = if Sb.want k rev s = true then insI s.id (stabR k rev P) else stabR k rev P := by
  unfold stabR; rw [List.foldl_append]; rfl
theorem stabR_all (k : Bs) (rev : Int) : ∀ (r P : List Sb), ((P ++ r).map (·.id)).Nodup → (stabR k rev P).Pairwise (· < ·) → (∀ x, x ∈ stabR k rev P ↔ ∃ y ∈ P, Sb.want k rev y = true ∧ y.id = x) →
    (stabR k rev (P ++ r)).Pairwise (· < ·) ∧ ∀ x, x ∈ stabR k rev (P ++ r) ↔ ∃ y ∈ P ++ r, Sb.want k rev y = true ∧ y.id = x
  | [], P, _, h1, h2 => by rw [List.append_nil]; exact ⟨h1, h2⟩
  | s :: r, P, hn, h1, h2 => by
    have e : P ++ s :: r = (P ++ [s]) ++ r := by simp
    rw [e] at hn ⊢
    refine stabR_all k rev r (P ++ [s]) hn ?_ ?_
    · rw [stabR_snoc]
      split
      · refine insI_strict h1 fun hm => ?_
        obtain ⟨y, hy, _, hi⟩ := (h2 _).1 hm
        rw [List.map_append, List.map_append] at hn
        have := (List.nodup_append.1 (List.nodup_append.1 hn).1).2.2 y.id (List.mem_map_of_mem hy) s.id (by simp)
        exact this hi
      · exact h1
    · intro x
      rw [stabR_snoc]
      constructor
      · intro hx
        split at hx
        · rename_i hw
          rcases insI_mem.1 hx with rfl | hx
          · exact ⟨s, by simp, hw, rfl⟩
          · obtain ⟨y, hy, q⟩ := (h2 x).1 hx; exact ⟨y, by simp [hy], q⟩
        · obtain ⟨y, hy, q⟩ := (h2 x).1 hx; exact ⟨y, by simp [hy], q⟩
      · rintro ⟨y, hy, q1, q2⟩
        rcases List.mem_append.1 hy with hy | hy
        · have := (h2 x).2 ⟨y, hy, q1, q2⟩
          split
          · exact insI_mem.2 (Or.inr this)
          · exact this
        · obtain rfl := List.mem_singleton.1 hy
          rw [if_pos q1]
          exact insI_mem.2 (Or.inl q2.symm)
theorem stabR_eq {k : Bs} {rev : Int} {L : List Sb} (h : (L.map (·.id)).Nodup) : stabR k rev L = stabS k rev L := by
  obtain ⟨h1, h2⟩ := stabR_all k rev L [] (by simpa using h) (by simp [stabR]) (by simp [stabR])
  rw [List.nil_append] at h1 h2
  refine strict_unique h1 (sortI_strict (List.Nodup.sublist (List.filter_sublist.map _) h)) fun x => ?_
  rw [h2 x]
  unfold stabS
  rw [sortI_mem]
  simp only [List.mem_map, List.mem_filter]
  constructor
  · rintro ⟨y, h1, h2, h3⟩; exact ⟨y, ⟨h1, h2⟩, h3⟩
  · rintro ⟨y, ⟨h1, h2⟩, h3⟩; exact ⟨y, h1, h2, h3⟩
theorem insI_len (x : Int) (o : List Int) : (insI x o).length = o.length + 1 := by
  unfold insI
  have h := congrArg List.length (List.takeWhile_append_dropWhile (p := fun y => decide (y < x)) (l := o))
  rw [List.length_append] at h
  simp only [List.length_append, List.length_cons]
  omega
theorem stabR_len (k : Bs) (rev : Int) : ∀ (r P : List Sb), (stabR k rev P).length ≤ P.length → (stabR k rev (P ++ r)).length ≤ (P ++ r).length
  | [], P, h => by simpa using h
  | s :: r, P, h => by
    have e : P ++ s :: r = (P ++ [s]) ++ r := by simp
    rw [e]
    refine stabR_len k rev r (P ++ [s]) ?_
    rw [stabR_snoc]
    split
    · rw [insI_len]; simp; omega
    · simp; omega
theorem LIn.take' {α : Type} {cs : α → List Value} {sz : Nat} {w : World} {s : Option Addr} {c n k : Nat} {l : List α} (h : LIn cs sz w (.slice s n c) l) (hk : k ≤ l.length) : LIn cs sz w (.slice s k c) (l.take k) := by
  obtain ⟨a, c', h1, h2, h3, h4⟩ := h
  cases h1
  have hlen : (l.take k).length = k := by rw [List.length_take]; omega
  refine ⟨s, c, by rw [hlen], by omega, h3, fun hl => ?_⟩
  obtain ⟨g, off, h5, h6, h7⟩ := h4 (by omega)
  refine ⟨g, off, h5, h6, fun i x hx j hj => h7 i x ?_ j hj⟩
  rw [List.getElem?_take] at hx
  split at hx
  · exact hx
  · cases hx
theorem LIn.drop' {α : Type} {cs : α → List Value} {sz : Nat} {w : World} {g off off' c n k m : Nat} {l : List α} (h : LIn cs sz w (.slice (some ⟨g, off, none⟩) n c) l) (hm : l.length = m + k) (ho : CutAt off k sz c off') (hg : g < w.heap.size) : LIn cs sz w (.slice (some ⟨g, off', none⟩) m (c - k)) (l.drop k) := by
  obtain ⟨a, c', h1, h2, h3, h4⟩ := h
  cases h1
  have hlen : (l.drop k).length = m := by rw [List.length_drop]; omega
  refine ⟨_, c - k, by rw [hlen], by omega, by omega, fun hl => ⟨g, off', rfl, hg, fun i x hx j hj => ?_⟩⟩
  obtain ⟨g', off2, h5, h6, h7⟩ := h4 (by omega)
  cases h5
  rcases ho with rfl | ⟨rfl, rfl⟩
  · have := h7 (k + i) x (by rw [List.getElem?_drop] at hx; exact hx) j hj
    rw [← this]
    congr 2
    rw [Nat.add_mul]; omega
  · omega
set_option maxHeartbeats 2000000 in
theorem rsi_stab (lv : Value) (L : List Sb) (k : ByteArray) (rev : Int) (w : World) (hl : SbIn w lv L) (hn : L.length ≤ 1000) :
    Calls Try.prog 15 #[lv, .string k, .int .i64 rev] w fun e w' => ∃ v, e = .returned v ∧ OutAt inC 3 1 w w' v (stabR k.toList rev L) ∧ Fr [] w w' := by
  obtain ⟨s1, c1, rfl, la, ma⟩ := hl.form
  unfold maxLen at ma
  have HL := Lib.hid hl
  have HRI := Lib.hid fun (s : Sb) W => rin_any s.f s.t k W
  clear hl
  go_enter Try.func15, Try.ntmps15
  go_wp2_with fail
  go_loopw [7, 8] (fun ov iv wr => ∃ (j : Nat) (o : List Int), iv = .int .i64 j ∧ j ≤ L.length ∧ OutAt inC 3 1 w wr ov o ∧ o = stabR k.toList rev (L.take j) ∧ o.length ≤ j ∧ Fr [] w wr) (fun _ i _ => L.length - (intOf i).toNat)
  case atStart => exact ⟨0, [], rfl, Nat.zero_le _, OutAt.nil _ _, rfl, by simp, Fr.refl _ _⟩
  case round =>
    obtain ⟨j, o, rfl, hj, ho, hoe, hol, hf⟩ := hrel
    have HO := Lib.hid ho
    have HOE := Lib.hid hoe
    have HF := Lib.hid hf
    clear hoe hf
    by_cases h : j < L.length
    · obtain ⟨x, hx⟩ : ∃ x, L[j]? = some x := ⟨_, List.getElem?_eq_getElem h⟩
      obtain ⟨g, off, d1, e1, hg, l1, k1⟩ := SbIn.here HL.out (by omega)
      simp only [Value.slice.injEq] at e1
      obtain ⟨rfl, _, rfl⟩ := e1
      have HC := Lib.hid ((k1 j x hx).keep HF.out (by simp))
      have HTK := Lib.hid (take_snoc hx)
      have HSN := Lib.hid (stabR_snoc k.toList rev (L.take j) x)
      have t1 : decide (j < L.length) = true := by simpa using h
      have HIX := Lib.hid fun W => HRI.out x W
      have HW : Hid (Sb.want k.toList rev x = (decide (x.rev < rev) && inB x.f.toList x.t.toList k.toList)) := Lib.hid rfl
      generalize inB x.f.toList x.t.toList k.toList = J at *
      obtain ⟨y0, y1, y2, y3⟩ := HC.out
      clear k1 hx hg
      obtain ⟨s7, c7, hv7, _⟩ := ho.lies.form
      have hvc := ho.lies.2
      clear ho
      subst hv7
      by_cases hr : x.rev < rev
      case' neg =>
        have t2 : decide (rev ≤ x.rev) = true := by simp; omega
        have t3 : decide (x.rev < rev) = false := by simpa using hr
      case' pos =>
        have t2 : decide (rev ≤ x.rev) = false := by simp; omega
        have t3 : decide (x.rev < rev) = true := by simpa using hr
      all_goals
        have HT3 := Lib.hid t3
        clear hr t3
        cases J
      case' pos.true =>
        go_wp2_with (go_at_call 18; refine (HIX.out _).mono ?_; rintro e w3 ⟨rfl, hf⟩; have HN := Lib.hid (HF.out.trans hf (by simp)); have HO3 := Lib.hid (HO.out.keep hf); have HC3 := Lib.hid (HC.out.keep hf (by simp)); have z1 := hf.cell y1 (by simp); clear hf)
        have HOI3 := Lib.hid (out_in HO3.out)
        have HOLT := Lib.hid HO3.out.lies.lt
        clear z1 y0 y1 y2 y3
        rcases hvc with ⟨e7, hz7⟩ | ⟨g7, off7, cap7, cur7, e7, hg7, _⟩
        · simp only [Value.slice.injEq] at e7
          obtain ⟨rfl, _, rfl⟩ := e7
          have hon : o = [] := List.eq_nil_of_length_eq_zero hz7
          have HONIL := Lib.hid hon
          rw [hz7] at HOI3 ⊢
          go_loopw [9] (fun iv wq => iv = .int .i64 0 ∧ Fr [] w3 wq) (fun i _ => 0)
          case atStart => exact ⟨rfl, Fr.refl _ _⟩
          case round =>
            obtain ⟨rfl, hf⟩ := hrel
            have HNQ := Lib.hid hf
            clear hf hon
            go_upto_region 7 with fail
            refine wp_region_after [] (by kernel_rfl) (by kernel_rfl) ?_
            repeat (go_big_quiet_step (fail))
            refine wpQuiet_nil ?_
            rintro _ ⟨nq, rfl⟩
            have HQ9 := Lib.hid (HNQ.out.trans nq.fr (by simp))
            generalize nq.now = w9 at *
            have HNN := Lib.hid (HN.out.trans HQ9.out (by simp))
            have HC9 := Lib.hid (HC3.out.keep HQ9.out (by simp))
            have HOI9 : Hid (InIn w9 (.slice none 0 0) o) := Lib.hid (LIn.keep0 HOI3.out HQ9.out)
            have hmo : 0 ≤ o.length := by omega
            have hlm : (o.take 0).length = 0 := by rw [List.length_take]; omega
            have HE0 : Hid (OutAt inC 3 1 w9 (w9.alloc (.cells #[] 3)) (.slice (some ⟨w9.heap.size, 0, none⟩) 0 0) []) := Lib.hid ⟨Lies.of_own (own_empty w9 3 _ rfl), fun k hk => by simp [Value.ownBlock] at hk; omega⟩
            have HSR : Hid (Src (w9.alloc (.cells #[] 3)) 1 (.slice none 0 0) 0 (allC inC (o.take 0))) := Lib.hid (by
              have q := LIn.src ((LIn.take' HOI9.out hmo).keep0 ((Fr.refl [] w9).alloc (.cells #[] 3))) inC.len (by decide)
              rw [hlm] at q
              exact q)
            have HLM := Lib.hid hlm
            have HMO := Lib.hid hmo
            have hol9 : o.length ≤ 1000 := by omega
            clear hlm
            go_wp2_with (at_builtin; refine wpList_append_src rfl (.tmp 52) (.tmp 55) 38 3 (.int .i64 0) 1 8 rfl sints_slice sint_info rfl (by decide) _ 0 [] rfl HE0.out.lies _ 0 (allC inC (o.take 0)) rfl HSR.out (allC_ones inC.one _) (by unfold maxLen; omega) (by omega) ?a1)
            case a1 =>
            intro v10 w10 h1 h2 h3
            have HO10 : Hid (OutAt inC 3 1 w9 w10 v10 (o.take 0)) := Lib.hid (by
              have q := OutAt.app HE0.out (by simp) (n := 0) (xs := o.take 0) (by first | exact h1 | (rw [show allC inC ([] : List Int) = [] from rfl, List.nil_append, List.length_nil, Nat.zero_add]; exact h1)) HLM.out h3
              simpa using q)
            have HN10 : Hid (Fr [] w9 w10) := Lib.hid (OutAt.fr HE0.out ((Fr.refl [] w9).alloc _) h2)
            obtain ⟨z0, z1, z2, z3⟩ := HC9.out.keep HN10.out (by simp)
            obtain ⟨s10, c10, hv10, _⟩ := HO10.out.lies.form
            rw [HLM.out] at hv10
            subst hv10
            clear h1 h2 h3 HE0 HSR
            go_wp2_with (at_builtin; refine wpList_append_any rfl (.tmp 57) (.tmp 63) 38 3 (.int .i64 0) 1 8 rfl sints_slice sint_info rfl (by decide) _ 0 (allC inC (o.take 0)) rfl (by have q := (HO10.out.lies.keep0 ((Fr.refl [] w10).alloc (.cells (inC x.id).toArray 3))); unfold LAt at q; rw [HLM.out] at q; exact q) _ 1 (inC x.id) rfl (lies_row w10 3 (inC x.id) rfl _ rfl) (inC.one x.id) (by unfold maxLen; omega) (by omega) ?a2)
            case a2 =>
            intro v11 w11 h1 h2 h3
            have ha := (HO10.out.keep ((Fr.refl [] w10).alloc (.cells (inC x.id).toArray 3)))
            have HO11 : Hid (OutAt inC 3 1 w9 w11 v11 (o.take 0 ++ [x.id])) := Lib.hid (OutAt.app ha (by have := HN10.out.size; simp at this ⊢; omega) (xs := [x.id]) (by rw [allC_one, HLM.out]; exact h1) rfl h3)
            have HN11 : Hid (Fr [] w9 w11) := Lib.hid (OutAt.fr ha (HN10.out.alloc _) h2)
            obtain ⟨s11, c11, hv11, _⟩ := HO11.out.lies.form
            have HL11 : Hid ((o.take 0 ++ [x.id]).length = 0 + 1) := Lib.hid (by rw [List.length_append, HLM.out]; rfl)
            rw [HL11.out] at hv11
            subst hv11
            clear h1 h2 h3 ha z0 z1 z2 z3
            have HSD : Hid (Src w11 1 (.slice none 0 0) 0 []) := Lib.hid ⟨by simp, none, 0, rfl, fun h => by omega⟩
            go_wp2_with (at_builtin; refine wpList_append_src rfl (.tmp 65) (.tmp 68) 38 3 (.int .i64 0) 1 8 rfl sints_slice sint_info rfl (by decide) _ (0 + 1) (allC inC (o.take 0 ++ [x.id])) rfl (by have q := HO11.out.lies; unfold LAt at q; rw [HL11.out] at q; exact q) _ 0 [] rfl HSD.out (by simp) (by unfold maxLen; omega) (by omega) ?a3)
            case a3 =>
            intro v12 w12 h1 h2 h3
            have HO12 : Hid (OutAt inC 3 1 w9 w12 v12 (o.take 0 ++ [x.id] ++ [])) := Lib.hid (OutAt.app HO11.out (by have := HN11.out.size; omega) (n := 0) (xs := []) (by rw [HL11.out]; exact h1) rfl h3)
            have HN12 : Hid (Fr [] w9 w12) := Lib.hid (OutAt.fr HO11.out HN11.out h2)
            clear h1 h2 h3 HSD
            go_wp2_with fail
            go_roundw
            case rel =>
              refine ⟨j + 1, insI x.id o, by go_num, by omega, ?_, ?_, by rw [insI_len]; omega, HNN.out.trans HN12.out (by simp)⟩
              · have q := HO12.out
                rw [show insI x.id o = o.take 0 ++ [x.id] ++ [] by rw [HONIL.out]; rfl]
                exact ⟨q.lies, fun k hk => Nat.le_trans HNN.out.size (q.new k hk)⟩
              · rw [HTK.out, HSN.out, HW.out, HT3.out, if_pos (by simp), ← HOE.out]
            case measure => simp [intOf]; omega
        · simp only [Value.slice.injEq] at e7
          obtain ⟨rfl, _, rfl⟩ := e7
          have HG7 := Lib.hid (lt_of_block hg7)
          clear hg7
          go_loopw [9] (fun iv wq => ∃ m : Nat, iv = .int .i64 m ∧ m ≤ o.length ∧ (∀ (i : Nat) (y : Int), i < m → o[i]? = some y → y < x.id) ∧ Fr [] w3 wq) (fun i _ => o.length - (intOf i).toNat)
          case atStart => exact ⟨0, rfl, Nat.zero_le _, (by intro i y h; omega), Fr.refl _ _⟩
          case round =>
            obtain ⟨m, rfl, hm, hall, hf⟩ := hrel
            have HNQ := Lib.hid hf
            have HALL := Lib.hid hall
            clear hf hall
            by_cases h2 : m < o.length
            · obtain ⟨z, hz⟩ : ∃ z, o[m]? = some z := ⟨_, List.getElem?_eq_getElem h2⟩
              obtain ⟨g8, off8, d8, e8, _, l8, k8⟩ := InIn.here HOI3.out (by omega)
              simp only [Value.slice.injEq, Option.some.injEq, Addr.mk.injEq, and_true, true_and] at e8
              obtain ⟨⟨rfl, rfl⟩, rfl⟩ := e8
              have a0 := HNQ.out.cell (k8 m z hz) (by simp)
              have b0 := HNQ.out.cell HC3.out.c0 (by simp)
              have t4 : decide (m < o.length) = true := by simpa using h2
              have HZ := Lib.hid hz
              have A0 := fun n : After [] wr => n.cell a0 (by simp)
              have B0 := fun n : After [] wr => n.cell b0 (by simp)
              clear k8 hz a0 b0
              by_cases hzx : z < x.id
              · have t5 : decide (z < x.id) = true := by simpa using hzx
                have HZX := Lib.hid hzx
                clear hzx
                go_upto_region 7 with fail
                refine wp_region_after [] (by kernel_rfl) (by kernel_rfl) ?_
                repeat (go_big_quiet_step (fail))
                refine wpQuiet_nil ?_
                rintro _ ⟨nq, rfl⟩
                have HQ9 := Lib.hid (HNQ.out.trans nq.fr (by simp))
                clear A0 B0
                go_wp2_with fail
                go_roundw
                case rel =>
                  refine ⟨m + 1, by go_num, by omega, ?_, HQ9.out⟩
                  intro i y hi hy
                  by_cases him : i = m
                  · subst him
                    have h9 := HZ.out
                    rw [hy] at h9
                    cases h9
                    exact HZX.out
                  · exact HALL.out i y (by omega) hy
                case measure => simp [intOf]; omega
              · have t5 : decide (z < x.id) = false := by simpa using hzx
                have HINS : Hid (insAt m x.id o = insI x.id o) := Lib.hid (insI_at HALL.out (by omega) (fun y hy => by have h9 := HZ.out; rw [hy] at h9; cases h9; exact hzx))
                clear hzx
                go_upto_region 7 with fail
                refine wp_region_after [] (by kernel_rfl) (by kernel_rfl) ?_
                repeat (go_big_quiet_step (fail))
                refine wpQuiet_nil ?_
                rintro _ ⟨nq, rfl⟩
                have HQ9 := Lib.hid (HNQ.out.trans nq.fr (by simp))
                clear A0 B0
                generalize nq.now = w9 at *
                have HNN := Lib.hid (HN.out.trans HQ9.out (by simp))
                have HC9 := Lib.hid (HC3.out.keep HQ9.out (by simp))
                have HOI9 : Hid (InIn w9 (.slice (some ⟨g7, off7, none⟩) o.length c7) o) := Lib.hid (LIn.keep0 HOI3.out HQ9.out)
                have HG7 : Hid (g7 < w9.heap.size) := Lib.hid (by have := HOLT.out g7 rfl; have := HQ9.out.size; omega)
                have hmo : m ≤ o.length := by omega
                have hlm : (o.take m).length = m := by rw [List.length_take]; omega
                have HE0 : Hid (OutAt inC 3 1 w9 (w9.alloc (.cells #[] 3)) (.slice (some ⟨w9.heap.size, 0, none⟩) 0 0) []) := Lib.hid ⟨Lies.of_own (own_empty w9 3 _ rfl), fun k hk => by simp [Value.ownBlock] at hk; omega⟩
                have HSR : Hid (Src (w9.alloc (.cells #[] 3)) 1 (.slice (some ⟨g7, off7, none⟩) m c7) m (allC inC (o.take m))) := Lib.hid (by
                  have q := LIn.src ((LIn.take' HOI9.out hmo).keep0 ((Fr.refl [] w9).alloc (.cells #[] 3))) inC.len (by decide)
                  rw [hlm] at q
                  exact q)
                have HLM := Lib.hid hlm
                have HMO := Lib.hid hmo
                have hol9 : o.length ≤ 1000 := by omega
                clear hlm
                go_wp2_with (at_builtin; refine wpList_append_src rfl (.tmp 52) (.tmp 55) 38 3 (.int .i64 0) 1 8 rfl sints_slice sint_info rfl (by decide) _ 0 [] rfl HE0.out.lies _ m (allC inC (o.take m)) rfl HSR.out (allC_ones inC.one _) (by unfold maxLen; omega) (by omega) ?a1)
                case a1 =>
                intro v10 w10 h1 h2 h3
                have HO10 : Hid (OutAt inC 3 1 w9 w10 v10 (o.take m)) := Lib.hid (by
                  have q := OutAt.app HE0.out (by simp) (n := m) (xs := o.take m) (by first | exact h1 | (rw [show allC inC ([] : List Int) = [] from rfl, List.nil_append, List.length_nil, Nat.zero_add]; exact h1)) HLM.out h3
                  simpa using q)
                have HN10 : Hid (Fr [] w9 w10) := Lib.hid (OutAt.fr HE0.out ((Fr.refl [] w9).alloc _) h2)
                obtain ⟨z0, z1, z2, z3⟩ := HC9.out.keep HN10.out (by simp)
                obtain ⟨s10, c10, hv10, _⟩ := HO10.out.lies.form
                rw [HLM.out] at hv10
                subst hv10
                clear h1 h2 h3 HE0 HSR
                go_wp2_with (at_builtin; refine wpList_append_any rfl (.tmp 57) (.tmp 63) 38 3 (.int .i64 0) 1 8 rfl sints_slice sint_info rfl (by decide) _ m (allC inC (o.take m)) rfl (by have q := (HO10.out.lies.keep0 ((Fr.refl [] w10).alloc (.cells (inC x.id).toArray 3))); unfold LAt at q; rw [HLM.out] at q; exact q) _ 1 (inC x.id) rfl (lies_row w10 3 (inC x.id) rfl _ rfl) (inC.one x.id) (by unfold maxLen; omega) (by omega) ?a2)
                case a2 =>
                intro v11 w11 h1 h2 h3
                have ha := (HO10.out.keep ((Fr.refl [] w10).alloc (.cells (inC x.id).toArray 3)))
                have HO11 : Hid (OutAt inC 3 1 w9 w11 v11 (o.take m ++ [x.id])) := Lib.hid (OutAt.app ha (by have := HN10.out.size; simp at this ⊢; omega) (xs := [x.id]) (by rw [allC_one, HLM.out]; exact h1) rfl h3)
                have HN11 : Hid (Fr [] w9 w11) := Lib.hid (OutAt.fr ha (HN10.out.alloc _) h2)
                obtain ⟨s11, c11, hv11, _⟩ := HO11.out.lies.form
                have HL11 : Hid ((o.take m ++ [x.id]).length = m + 1) := Lib.hid (by rw [List.length_append, HLM.out]; rfl)
                rw [HL11.out] at hv11
                subst hv11
                clear h1 h2 h3 ha z0 z1 z2 z3
                have hc7 : o.length ≤ c7 := by
                  obtain ⟨_, _, e7, h7, _⟩ := HOI9.out.form
                  cases e7; exact h7
                go_wp2_with (refine wpList_slice_from rfl (.tmp 66) (.tmp 67) 38 3 (.int .i64 0) 1 8 rfl sints_slice sint_info g7 off7 o.length c7 m (o.length - m) rfl rfl (by omega) hc7 ?sl)
                case sl =>
                intro off9 hcut
                have HSD : Hid (Src w11 1 (.slice (some ⟨g7, off9, none⟩) (o.length - m) (c7 - m)) (o.length - m) (allC inC (o.drop m))) := Lib.hid (by
                  have q := LIn.src (LIn.drop' (m := o.length - m) (LIn.keep0 HOI9.out HN11.out) (by omega) hcut (by have := HG7.out; have := HN11.out.size; omega)) inC.len (by decide)
                  rw [show (o.drop m).length = o.length - m by rw [List.length_drop]] at q
                  exact q)
                clear hcut hc7
                go_wp2_with (at_builtin; refine wpList_append_src rfl (.tmp 65) (.tmp 68) 38 3 (.int .i64 0) 1 8 rfl sints_slice sint_info rfl (by decide) _ (m + 1) (allC inC (o.take m ++ [x.id])) rfl (by have q := HO11.out.lies; unfold LAt at q; rw [HL11.out] at q; exact q) _ (o.length - m) (allC inC (o.drop m)) rfl HSD.out (allC_ones inC.one _) (by unfold maxLen; omega) (by omega) ?a3)
                case a3 =>
                intro v12 w12 h1 h2 h3
                have HO12 : Hid (OutAt inC 3 1 w9 w12 v12 (o.take m ++ [x.id] ++ o.drop m)) := Lib.hid (OutAt.app HO11.out (by have := HN11.out.size; omega) (n := o.length - m) (xs := o.drop m) (by rw [HL11.out]; exact h1) (by rw [List.length_drop]) h3)
                have HN12 : Hid (Fr [] w9 w12) := Lib.hid (OutAt.fr HO11.out HN11.out h2)
                clear h1 h2 h3 HSD
                go_wp2_with fail
                go_roundw
                case rel =>
                  refine ⟨j + 1, insI x.id o, by go_num, by omega, ?_, ?_, by rw [insI_len]; omega, HNN.out.trans HN12.out (by simp)⟩
                  · rw [← HINS.out]
                    have q := HO12.out
                    rw [List.append_assoc] at q
                    exact ⟨q.lies, fun k hk => Nat.le_trans HNN.out.size (q.new k hk)⟩
                  · rw [HTK.out, HSN.out, HW.out, HT3.out, if_pos (by simp), ← HOE.out]
                case measure => simp [intOf]; omega
            · have t4 : decide (m < o.length) = false := by simpa using h2
              have HINS : Hid (insAt m x.id o = insI x.id o) := Lib.hid (insI_at HALL.out (by omega) (fun y hy => by have := (List.getElem?_eq_some_iff.1 hy).1; omega))
              go_upto_region 7 with fail
              refine wp_region_after [] (by kernel_rfl) (by kernel_rfl) ?_
              repeat (go_big_quiet_step (fail))
              refine wpQuiet_nil ?_
              rintro _ ⟨nq, rfl⟩
              have HQ9 := Lib.hid (HNQ.out.trans nq.fr (by simp))
              generalize nq.now = w9 at *
              have HNN := Lib.hid (HN.out.trans HQ9.out (by simp))
              have HC9 := Lib.hid (HC3.out.keep HQ9.out (by simp))
              have HOI9 : Hid (InIn w9 (.slice (some ⟨g7, off7, none⟩) o.length c7) o) := Lib.hid (LIn.keep0 HOI3.out HQ9.out)
              have HG7 : Hid (g7 < w9.heap.size) := Lib.hid (by have := HOLT.out g7 rfl; have := HQ9.out.size; omega)
              have hmo : m ≤ o.length := by omega
              have hlm : (o.take m).length = m := by rw [List.length_take]; omega
              have HE0 : Hid (OutAt inC 3 1 w9 (w9.alloc (.cells #[] 3)) (.slice (some ⟨w9.heap.size, 0, none⟩) 0 0) []) := Lib.hid ⟨Lies.of_own (own_empty w9 3 _ rfl), fun k hk => by simp [Value.ownBlock] at hk; omega⟩
              have HSR : Hid (Src (w9.alloc (.cells #[] 3)) 1 (.slice (some ⟨g7, off7, none⟩) m c7) m (allC inC (o.take m))) := Lib.hid (by
                have q := LIn.src ((LIn.take' HOI9.out hmo).keep0 ((Fr.refl [] w9).alloc (.cells #[] 3))) inC.len (by decide)
                rw [hlm] at q
                exact q)
              have HLM := Lib.hid hlm
              have HMO := Lib.hid hmo
              have hol9 : o.length ≤ 1000 := by omega
              clear hlm
              go_wp2_with (at_builtin; refine wpList_append_src rfl (.tmp 52) (.tmp 55) 38 3 (.int .i64 0) 1 8 rfl sints_slice sint_info rfl (by decide) _ 0 [] rfl HE0.out.lies _ m (allC inC (o.take m)) rfl HSR.out (allC_ones inC.one _) (by unfold maxLen; omega) (by omega) ?a1)
              case a1 =>
              intro v10 w10 h1 h2 h3
              have HO10 : Hid (OutAt inC 3 1 w9 w10 v10 (o.take m)) := Lib.hid (by
                have q := OutAt.app HE0.out (by simp) (n := m) (xs := o.take m) (by first | exact h1 | (rw [show allC inC ([] : List Int) = [] from rfl, List.nil_append, List.length_nil, Nat.zero_add]; exact h1)) HLM.out h3
                simpa using q)
              have HN10 : Hid (Fr [] w9 w10) := Lib.hid (OutAt.fr HE0.out ((Fr.refl [] w9).alloc _) h2)
              obtain ⟨z0, z1, z2, z3⟩ := HC9.out.keep HN10.out (by simp)
              obtain ⟨s10, c10, hv10, _⟩ := HO10.out.lies.form
              rw [HLM.out] at hv10
              subst hv10
              clear h1 h2 h3 HE0 HSR
              go_wp2_with (at_builtin; refine wpList_append_any rfl (.tmp 57) (.tmp 63) 38 3 (.int .i64 0) 1 8 rfl sints_slice sint_info rfl (by decide) _ m (allC inC (o.take m)) rfl (by have q := (HO10.out.lies.keep0 ((Fr.refl [] w10).alloc (.cells (inC x.id).toArray 3))); unfold LAt at q; rw [HLM.out] at q; exact q) _ 1 (inC x.id) rfl (lies_row w10 3 (inC x.id) rfl _ rfl) (inC.one x.id) (by unfold maxLen; omega) (by omega) ?a2)
              case a2 =>
              intro v11 w11 h1 h2 h3
              have ha := (HO10.out.keep ((Fr.refl [] w10).alloc (.cells (inC x.id).toArray 3)))
              have HO11 : Hid (OutAt inC 3 1 w9 w11 v11 (o.take m ++ [x.id])) := Lib.hid (OutAt.app ha (by have := HN10.out.size; simp at this ⊢; omega) (xs := [x.id]) (by rw [allC_one, HLM.out]; exact h1) rfl h3)
              have HN11 : Hid (Fr [] w9 w11) := Lib.hid (OutAt.fr ha (HN10.out.alloc _) h2)
              obtain ⟨s11, c11, hv11, _⟩ := HO11.out.lies.form
              have HL11 : Hid ((o.take m ++ [x.id]).length = m + 1) := Lib.hid (by rw [List.length_append, HLM.out]; rfl)
              rw [HL11.out] at hv11
              subst hv11
              clear h1 h2 h3 ha z0 z1 z2 z3
              have hc7 : o.length ≤ c7 := by
                obtain ⟨_, _, e7, h7, _⟩ := HOI9.out.form
                cases e7; exact h7
              go_wp2_with (refine wpList_slice_from rfl (.tmp 66) (.tmp 67) 38 3 (.int .i64 0) 1 8 rfl sints_slice sint_info g7 off7 o.length c7 m (o.length - m) rfl rfl (by omega) hc7 ?sl)
              case sl =>
              intro off9 hcut
              have HSD : Hid (Src w11 1 (.slice (some ⟨g7, off9, none⟩) (o.length - m) (c7 - m)) (o.length - m) (allC inC (o.drop m))) := Lib.hid (by
                have q := LIn.src (LIn.drop' (m := o.length - m) (LIn.keep0 HOI9.out HN11.out) (by omega) hcut (by have := HG7.out; have := HN11.out.size; omega)) inC.len (by decide)
                rw [show (o.drop m).length = o.length - m by rw [List.length_drop]] at q
                exact q)
              clear hcut hc7
              go_wp2_with (at_builtin; refine wpList_append_src rfl (.tmp 65) (.tmp 68) 38 3 (.int .i64 0) 1 8 rfl sints_slice sint_info rfl (by decide) _ (m + 1) (allC inC (o.take m ++ [x.id])) rfl (by have q := HO11.out.lies; unfold LAt at q; rw [HL11.out] at q; exact q) _ (o.length - m) (allC inC (o.drop m)) rfl HSD.out (allC_ones inC.one _) (by unfold maxLen; omega) (by omega) ?a3)
              case a3 =>
              intro v12 w12 h1 h2 h3
              have HO12 : Hid (OutAt inC 3 1 w9 w12 v12 (o.take m ++ [x.id] ++ o.drop m)) := Lib.hid (OutAt.app HO11.out (by have := HN11.out.size; omega) (n := o.length - m) (xs := o.drop m) (by rw [HL11.out]; exact h1) (by rw [List.length_drop]) h3)
              have HN12 : Hid (Fr [] w9 w12) := Lib.hid (OutAt.fr HO11.out HN11.out h2)
              clear h1 h2 h3 HSD
              go_wp2_with fail
              go_roundw
              case rel =>
                refine ⟨j + 1, insI x.id o, by go_num, by omega, ?_, ?_, by rw [insI_len]; omega, HNN.out.trans HN12.out (by simp)⟩
                · rw [← HINS.out]
                  have q := HO12.out
                  rw [List.append_assoc] at q
                  exact ⟨q.lies, fun k hk => Nat.le_trans HNN.out.size (q.new k hk)⟩
                · rw [HTK.out, HSN.out, HW.out, HT3.out, if_pos (by simp), ← HOE.out]
              case measure => simp [intOf]; omega
      all_goals
        go_wp2_with (go_at_call 18; refine (HIX.out _).mono ?_; rintro e w3 ⟨rfl, hf⟩; have HN := Lib.hid (HF.out.trans hf (by simp)); have HO3 := Lib.hid (HO.out.keep hf); have z1 := hf.cell y1 (by simp); clear hf)
        go_roundw
        case rel =>
          refine ⟨j + 1, o, by go_num, by omega, HO3.out, ?_, by omega, HN.out⟩
          rw [HTK.out, HSN.out, HW.out, HT3.out, if_neg (by simp)]
          exact HOE.out
        case measure => simp [intOf]; omega
    · have t1 : decide (j < L.length) = false := by simpa using h
      have hjL : L.take j = L := List.take_of_length_le (by omega)
      rw [hjL] at HOE
      clear ho hjL
      go_wp2_with fail
      go_ret
      exact ⟨_, rfl, by rw [← HOE.out]; exact HO.out, HF.out⟩
end Go.Proofs.Ytcieokfjkfpajaa
