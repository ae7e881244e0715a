/- PACKAGE hist: forget: contract -/
import Derived.Test.YtpahencocbahgaaHistOne
namespace Go.Proofs.Ytpahencocbahgaa
open Go.RowKit Go.Maps
set_option linter.unusedVariables false
set_option linter.unusedSimpArgs false

theorem not_map {κ : Type} {P : Program} {k : TypeId} {K : KeyD κ} {ok : Value → Bool} {w : World} {b n : Nat} {M : κ → Option Value} {v : Value} {l : List Ev} (h : EvAt w v l) (hm : MapG P k K ok w b n M) : ∀ g, v.ownBlock = some g → g ≠ b := by
  rintro g hg rfl
  obtain ⟨cur, hc⟩ := at_tag h hg
  obtain ⟨es, c, hd⟩ := hm.isMap
  rw [hd] at hc; cases hc
/-- what forget leaves -/
def Forgot (w : World) (p : Nat) (S : List Nat) (rows : List (List Ev)) (hor : Nat) (V : ByteArray → List Ev) (rm km n1 n2 : Nat) (R : Int → Option Value) (k : ByteArray) (w' : World) : Prop :=
  ∃ S' n2' M', HsAt w' p S' rows hor (fun z => if z = k then fromV (V k) hor else V z) rm km n1 n2' R M' ∧ n2' ≤ n2 + 1 ∧ Fr S w w' ∧ Grow S S' w
set_option maxRecDepth 100000 in
set_option maxHeartbeats 4000000 in
theorem hist_forget {w : World} {p : Nat} {S : List Nat} {rows : List (List Ev)} {hor : Nat} {V : ByteArray → List Ev} {rm km n1 n2 : Nat} {R : Int → Option Value} {M : ByteArray → Option Value} (h : HsAt w p S rows hor V rm km n1 n2 R M) (k : ByteArray) (hk : k.size ≤ maxLen) (hV : (V k).length ≤ many) (hn2 : n2 ≤ 1000000) :
    Calls Try.prog 37 #[.pointer (some ⟨p, 0, none⟩), .string k] w fun e w' => e = .returned (.tuple #[]) ∧ Forgot w p S rows hor V rm km n1 n2 R k w' := by
  obtain ⟨c0, c1, c2, c3, _⟩ := cells4 h.blk
  obtain ⟨v, hv⟩ : ∃ v, v = (M k).getD (.slice none 0 0) := ⟨_, rfl⟩
  have hat := h.get k
  rw [← hv] at hat
  have hlk : ∀ X, Fr [] w X → (Instr.lookup 63 (.map (some km)) (.string k) false).run Try.prog X = .ok v X := fun X hX => by
    rw [hv]; exact (h.kmap.keep hX (by simp)).look KS keys_map (zero_vers _) rfl hk
  have k1 := hlk w.drew ((Fr.refl [] w).drew)
  obtain ⟨L, hL⟩ : ∃ L, L = fromV (V k) hor := ⟨_, rfl⟩
  have HC : Hid (∀ X, Fr [] w X → Calls Try.prog 46 #[v, .int .i64 hor] X fun e w' => ∃ v', e = .returned v' ∧ OutAt Ev.cells 70 4 X w' v' L ∧ Fr [] X w') :=
    Lib.hid (fun X hX => by rw [hL]; exact ver_from v (V k) hor X (LAt.keep0 hat hX) hV)
  have HH := Lib.hid h
  have HL := Lib.hid hL
  have HV := Lib.hid hv
  have HCELL : Hid (∀ X, Fr [] w X → X.cell? ⟨p, 0, none⟩ = some (.int .i64 hor) ∧ X.cell? ⟨p, 3, none⟩ = some (.map (some km))) := Lib.hid (fun X hX => ⟨hX.cell c0 (by simp), hX.cell c3 (by simp)⟩)
  clear h hat hlk hV hL hv
  go_enter Try.func37, Try.ntmps37
  go_wp2_with fail
  go_region_held3 (fun w' => w'.cell? ⟨p, 0, none⟩ = some (.int .i64 hor) ∧ w'.cell? ⟨p, 3, none⟩ = some (.map (some km))) (first | go_keep | assumption) (first
    | (go_at_call 25; refine (span_hor (r := hor) (by assumption)).mono ?_; rintro e w1 ⟨rfl, rfl⟩)
    | (go_at_call 46; refine (HC.out _ (Fr.refl [] w).drew).mono ?_; rintro e w1 ⟨v1, rfl, ho1, hf1⟩; have hfw := (Fr.refl [] w).drew.trans hf1 (by simp); have q := HCELL.out w1 hfw; have HO1 := Lib.hid ho1; have HF1 := Lib.hid hfw; clear ho1 hf1 hfw))
  all_goals
    obtain ⟨s1, d1, rfl, la1, ma1⟩ := HO1.out.lies.form
    unfold maxLen at ma1
    have HH1 := Lib.hid (HH.out.keep HF1.out (by simp))
    have HKM := Lib.hid HH1.out.kmap
    obtain ⟨q0, q3⟩ := q
    rename_i hheld
    clear hheld c0 c1 c2 c3 k1 HC HCELL
    by_cases hz : L = []
    · subst hz
      go_wp2_with (at_delete; refine go_stop ?_)
      unfold Stop
      refine wpList_delete_G rfl _ _ 63 rfl strD KS isSl 67 keys_map km n2 M rfl HKM.out k rfl hk ?dl
      case dl =>
      intro w5 hm5 hf5
      have hres : Forgot w p S rows hor V rm km n1 n2 R k w5 := by
        have h5 := HH1.out.kdel hf5 hm5
        refine ⟨S, n2, (fun z => if z = k then none else M z), ?_, by omega, (HF1.out.mono (by simp)).trans (hf5.mono (T := S) (fun x hx => Or.inl (by rw [List.mem_singleton.1 hx]; exact HH1.out.ks))) (fun x hx => Or.inl hx), Grow.refl _ _⟩
        rw [← HL.out]; exact h5
      have HRES := Lib.hid hres
      clear hm5 hf5 hres
      go_wp2
      refine bodyPost_ret (v := .tuple #[]) (by simp [results, Try.results37, go_sem]) rfl ?_
      exact ⟨rfl, HRES.out⟩
    · have hl0 : 0 < L.length := List.length_pos_iff.2 hz
      have t0 : ¬ ((L.length : Int) = 0) := by omega
      have t00 : ¬ (L.length = 0) := by omega
      have HZ := Lib.hid hz
      clear hz
      obtain ⟨w5, hst, hm5, hf5⟩ := HKM.out.store (t := 63) (E := 67) KS keys_map (by unfold maxLen; omega) (e := k) hk (x := .slice s1 L.length d1) rfl
      simp only [strD] at hst
      have hres : Forgot w p S rows hor V rm km n1 n2 R k w5 := by
        have hlm : EvAt w5 (.slice s1 L.length d1) L := HO1.out.lies.keep hf5 (fun g hg => by
          have := not_map HO1.out.lies HKM.out g hg
          simpa using this)
        have h5 := HH.out.kput (key := k) (v0 := v) HV.out hlm (fun g hg => Or.inr (by simpa using HO1.out.new g hg)) ((HF1.out.mono (by simp)).trans (hf5.mono (T := km :: v.ownBlock.toList) (by simp)) (fun x hx => Or.inl hx)) hm5
        refine ⟨S ++ (Value.slice s1 L.length d1).ownBlock.toList, n2 + 1, (fun z => if z = k then some (.slice s1 L.length d1) else M z), ?_, Nat.le_refl _, (HF1.out.mono (by simp)).trans (hf5.mono (T := S) (fun x hx => Or.inl (by rw [List.mem_singleton.1 hx]; exact HH1.out.ks))) (fun x hx => Or.inl hx), fun x hx => ?_⟩
        · rw [← HL.out]; exact h5
        · rcases List.mem_append.1 hx with hx | hx
          · exact Or.inl hx
          · have := HO1.out.new x (Option.mem_toList.1 hx)
            exact Or.inr (by simpa using this)
      have HRES := Lib.hid hres
      clear hm5 hf5 hres
      go_wp2
      go_end0
      exact ⟨rfl, HRES.out⟩
end Go.Proofs.Ytpahencocbahgaa
