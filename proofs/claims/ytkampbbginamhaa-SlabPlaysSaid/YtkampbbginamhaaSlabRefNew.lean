/- CONTRACT OF THE DOCUMENT's ANSWER FOR slab's New -/
import Derived.Test.YtkampbbginamhaaSlabRefAlloc
import Derived.Test.YtkampbbginamhaaSlabNew
namespace Go.Proofs.Ytkampbbginamhaa
open Go.RowKit
set_option linter.unusedVariables false
set_option linter.unusedSimpArgs false

def zeroSlab : Value := .agg #[.slice none 0 0, .int .i64 0, .int .i64 0, .int .i64 0, .slice none 0 0, .slice none 0 0, .slice none 0 0]
theorem rnew_no (w : World) (words most k : Int) {v : Value} {cs : List Int} (h : Ref w v cs) (hno : words < 1 ∨ most < 1) :
    Calls Try.prog 27 #[.agg #[v, .int .i64 k], .int .i64 words, .int .i64 most] w fun e w' => e = .returned (.tuple #[zeroSlab, .bool false]) ∧ Fr [] w w' := by
  obtain ⟨s, c, rfl⟩ := h.form
  clear h
  unfold zeroSlab
  by_cases h1 : words < 1
  all_goals first
    | have t1 : decide (words < 1) = true := by simpa using h1
    | have t1 : decide (words < 1) = false := by simpa using h1
      have t2 : decide (most < 1) = true := by simp; omega
  all_goals
    clear hno
    go_enter Try.func27, Try.ntmps27
    go_wp2
    refine bodyPost_ret (v := .tuple #[.agg #[.slice none 0 0, .int .i64 0, .int .i64 0, .int .i64 0, .slice none 0 0, .slice none 0 0, .slice none 0 0], .bool false]) (by simp [results, Try.results27, go_sem]) rfl ⟨rfl, ?_⟩
    exact ((Fr.refl [] w).alloc _).alloc _

/-- the answer's slab while its rows are made -/
structure NewRel (w : World) (oB : Obj) (C : Nat) (mv : Value) (k : Int) (cs : List Int) (first W : Nat) (gv tv fv : Value) (jg jt jf : Nat) (wr : World) : Prop where
  fr : Fr [] w wr
  hC : w.heap.size + 1 < C
  b : wr.heap[w.heap.size + 1]? = some oB
  c : wr.heap[C]? = some (.cells #[mv, .int .i64 k, .int .i64 first, .int .i64 W, gv, tv, fv] 32 (0, 0))
  mem : Ref wr mv cs
  gens : Lies wr 3 1 gv jg (List.replicate jg (.int .i64 0))
  taken : Lies wr 4 1 tv jt (List.replicate jt (.bool false))
  free : Lies wr 3 1 fv jf ((List.range jf).map fun (q : Nat) => Value.int .i64 q)
  fm : ∀ b, mv.ownBlock = some b → w.heap.size + 1 < b ∧ b ≠ C
  fg : ∀ b, gv.ownBlock = some b → w.heap.size + 1 < b ∧ b ≠ C
  ft : ∀ b, tv.ownBlock = some b → w.heap.size + 1 < b ∧ b ≠ C
  ff : ∀ b, fv.ownBlock = some b → w.heap.size + 1 < b ∧ b ≠ C
  dmg : ∀ b, mv.ownBlock = some b → gv.ownBlock ≠ some b
  dmt : ∀ b, mv.ownBlock = some b → tv.ownBlock ≠ some b
  dmf : ∀ b, mv.ownBlock = some b → fv.ownBlock ≠ some b
  dgt : ∀ b, gv.ownBlock = some b → tv.ownBlock ≠ some b
  dgf : ∀ b, gv.ownBlock = some b → fv.ownBlock ≠ some b
  dtf : ∀ b, tv.ownBlock = some b → fv.ownBlock ≠ some b
theorem NewRel.next_g {w oB C mv k cs first W gv tv fv jg jt jf wr} (h : NewRel w oB C mv k cs first W gv tv fv jg jt jf wr) {o : Obj} {gv' : Value} {w' : World} (hown : Lies w' 3 1 gv' (jg + 1) (List.replicate (jg + 1) (.int .i64 0)))
    (hfr : Fr gv.ownBlock.toList (wr.alloc o) w') (hat : ∀ b, gv'.ownBlock = some b → gv.ownBlock = some b ∨ b = (wr.alloc o).heap.size) : NewRel w oB C mv k cs first W gv' tv fv (jg + 1) jt jf (w'.setCell ⟨C, 4, none⟩ gv') := by
  have hF : Fr gv.ownBlock.toList wr w' := ((Fr.refl _ wr).alloc o).trans hfr (fun x hx => Or.inl hx)
  have hCl := lt_of_block h.c
  have hC := h.hC
  have hat' : ∀ b, gv'.ownBlock = some b → gv.ownBlock = some b ∨ b = wr.heap.size + 1 := fun b hb => (hat b hb).imp id (fun e => by simpa using e)
  have hin : ∀ b, b ∈ gv.ownBlock.toList → w.heap.size + 1 < b ∧ b ≠ C := fun b hb => h.fg b (by simpa using hb)
  have hnew : ∀ b, gv'.ownBlock = some b → w.heap.size + 1 < b ∧ b ≠ C := by
    intro b hb
    rcases hat' b hb with e | e
    · exact h.fg b e
    · omega
  have hlt : ∀ (u : Value), (u = mv ∨ u = gv ∨ u = tv ∨ u = fv) → ∀ b, u.ownBlock = some b → b < wr.heap.size := by
    rintro u (rfl | rfl | rfl | rfl) b hb
    · exact (h.mem.lt b hb).2
    · exact h.gens.lt b hb
    · exact h.taken.lt b hb
    · exact h.free.lt b hb
  have hset : ∀ S, C ∈ S → Fr S w' (w'.setCell ⟨C, 4, none⟩ gv') := fun S hs => (Fr.refl S w').setCell (Or.inl hs) _
  have hnn : ∀ (u : Value), (u = mv ∨ u = gv ∨ u = tv ∨ u = fv) → (∀ b, u.ownBlock = some b → gv.ownBlock ≠ some b) → ∀ b, u.ownBlock = some b → gv'.ownBlock ≠ some b := by
    intro u hu hd b hb e
    rcases hat' b e with e | e
    · exact hd b hb e
    · have := hlt u hu b hb; omega
  refine ⟨((h.fr.trans hF (fun b hb => Or.inr (by have := (hin b hb).1; omega))).setNew (by omega) _), hC, ((hset [C] (by simp)).keep (hF.keep h.b (fun hb => by have := (hin _ hb).1; omega)) (by simp; omega)), ?c, ((h.mem.keep hF (fun b hb => by simpa using ((fun b hb => h.dmg b hb) b hb))).keep (hset [C] (by simp)) (fun b hb => by have := (h.fm b hb).2; simpa using this)), (hown.keep (hset [C] (by simp)) (fun b hb => by have := (hnew b hb).2; simpa using this)), ((h.taken.keep hF (fun b hb => by simpa using ((fun b hb e => h.dgt b e hb) b hb))).keep (hset [C] (by simp)) (fun b hb => by have := (h.ft b hb).2; simpa using this)), ((h.free.keep hF (fun b hb => by simpa using ((fun b hb e => h.dgf b e hb) b hb))).keep (hset [C] (by simp)) (fun b hb => by have := (h.ff b hb).2; simpa using this)), h.fm, hnew, h.ft, h.ff, (hnn mv (Or.inl rfl) (fun b hb => h.dmg b hb)), h.dmt, h.dmf, (fun b hb e => hnn tv (Or.inr (Or.inr (Or.inl rfl))) (fun b hb e => h.dgt b e hb) b e hb), (fun b hb e => hnn fv (Or.inr (Or.inr (Or.inr rfl))) (fun b hb e => h.dgf b e hb) b e hb), h.dtf⟩
  have hh := set_block (hF.keep h.c (fun hb => (hin _ hb).2 rfl)) 4 gv'
  simpa using hh
theorem NewRel.next_t {w oB C mv k cs first W gv tv fv jg jt jf wr} (h : NewRel w oB C mv k cs first W gv tv fv jg jt jf wr) {o : Obj} {tv' : Value} {w' : World} (hown : Lies w' 4 1 tv' (jt + 1) (List.replicate (jt + 1) (.bool false)))
    (hfr : Fr tv.ownBlock.toList (wr.alloc o) w') (hat : ∀ b, tv'.ownBlock = some b → tv.ownBlock = some b ∨ b = (wr.alloc o).heap.size) : NewRel w oB C mv k cs first W gv tv' fv jg (jt + 1) jf (w'.setCell ⟨C, 5, none⟩ tv') := by
  have hF : Fr tv.ownBlock.toList wr w' := ((Fr.refl _ wr).alloc o).trans hfr (fun x hx => Or.inl hx)
  have hCl := lt_of_block h.c
  have hC := h.hC
  have hat' : ∀ b, tv'.ownBlock = some b → tv.ownBlock = some b ∨ b = wr.heap.size + 1 := fun b hb => (hat b hb).imp id (fun e => by simpa using e)
  have hin : ∀ b, b ∈ tv.ownBlock.toList → w.heap.size + 1 < b ∧ b ≠ C := fun b hb => h.ft b (by simpa using hb)
  have hnew : ∀ b, tv'.ownBlock = some b → w.heap.size + 1 < b ∧ b ≠ C := by
    intro b hb
    rcases hat' b hb with e | e
    · exact h.ft b e
    · omega
  have hlt : ∀ (u : Value), (u = mv ∨ u = gv ∨ u = tv ∨ u = fv) → ∀ b, u.ownBlock = some b → b < wr.heap.size := by
    rintro u (rfl | rfl | rfl | rfl) b hb
    · exact (h.mem.lt b hb).2
    · exact h.gens.lt b hb
    · exact h.taken.lt b hb
    · exact h.free.lt b hb
  have hset : ∀ S, C ∈ S → Fr S w' (w'.setCell ⟨C, 5, none⟩ tv') := fun S hs => (Fr.refl S w').setCell (Or.inl hs) _
  have hnn : ∀ (u : Value), (u = mv ∨ u = gv ∨ u = tv ∨ u = fv) → (∀ b, u.ownBlock = some b → tv.ownBlock ≠ some b) → ∀ b, u.ownBlock = some b → tv'.ownBlock ≠ some b := by
    intro u hu hd b hb e
    rcases hat' b e with e | e
    · exact hd b hb e
    · have := hlt u hu b hb; omega
  refine ⟨((h.fr.trans hF (fun b hb => Or.inr (by have := (hin b hb).1; omega))).setNew (by omega) _), hC, ((hset [C] (by simp)).keep (hF.keep h.b (fun hb => by have := (hin _ hb).1; omega)) (by simp; omega)), ?c, ((h.mem.keep hF (fun b hb => by simpa using ((fun b hb => h.dmt b hb) b hb))).keep (hset [C] (by simp)) (fun b hb => by have := (h.fm b hb).2; simpa using this)), ((h.gens.keep hF (fun b hb => by simpa using ((fun b hb => h.dgt b hb) b hb))).keep (hset [C] (by simp)) (fun b hb => by have := (h.fg b hb).2; simpa using this)), (hown.keep (hset [C] (by simp)) (fun b hb => by have := (hnew b hb).2; simpa using this)), ((h.free.keep hF (fun b hb => by simpa using ((fun b hb e => h.dtf b e hb) b hb))).keep (hset [C] (by simp)) (fun b hb => by have := (h.ff b hb).2; simpa using this)), h.fm, h.fg, hnew, h.ff, h.dmg, (hnn mv (Or.inl rfl) (fun b hb => h.dmt b hb)), h.dmf, (hnn gv (Or.inr (Or.inl rfl)) (fun b hb => h.dgt b hb)), h.dgf, (fun b hb e => hnn fv (Or.inr (Or.inr (Or.inr rfl))) (fun b hb e => h.dtf b e hb) b e hb)⟩
  have hh := set_block (hF.keep h.c (fun hb => (hin _ hb).2 rfl)) 5 tv'
  simpa using hh
theorem NewRel.next_f {w oB C mv k cs first W gv tv fv jg jt jf wr} (h : NewRel w oB C mv k cs first W gv tv fv jg jt jf wr) {o : Obj} {fv' : Value} {w' : World} (hown : Lies w' 3 1 fv' (jf + 1) ((List.range (jf + 1)).map fun (q : Nat) => Value.int .i64 q))
    (hfr : Fr fv.ownBlock.toList (wr.alloc o) w') (hat : ∀ b, fv'.ownBlock = some b → fv.ownBlock = some b ∨ b = (wr.alloc o).heap.size) : NewRel w oB C mv k cs first W gv tv fv' jg jt (jf + 1) (w'.setCell ⟨C, 6, none⟩ fv') := by
  have hF : Fr fv.ownBlock.toList wr w' := ((Fr.refl _ wr).alloc o).trans hfr (fun x hx => Or.inl hx)
  have hCl := lt_of_block h.c
  have hC := h.hC
  have hat' : ∀ b, fv'.ownBlock = some b → fv.ownBlock = some b ∨ b = wr.heap.size + 1 := fun b hb => (hat b hb).imp id (fun e => by simpa using e)
  have hin : ∀ b, b ∈ fv.ownBlock.toList → w.heap.size + 1 < b ∧ b ≠ C := fun b hb => h.ff b (by simpa using hb)
  have hnew : ∀ b, fv'.ownBlock = some b → w.heap.size + 1 < b ∧ b ≠ C := by
    intro b hb
    rcases hat' b hb with e | e
    · exact h.ff b e
    · omega
  have hlt : ∀ (u : Value), (u = mv ∨ u = gv ∨ u = tv ∨ u = fv) → ∀ b, u.ownBlock = some b → b < wr.heap.size := by
    rintro u (rfl | rfl | rfl | rfl) b hb
    · exact (h.mem.lt b hb).2
    · exact h.gens.lt b hb
    · exact h.taken.lt b hb
    · exact h.free.lt b hb
  have hset : ∀ S, C ∈ S → Fr S w' (w'.setCell ⟨C, 6, none⟩ fv') := fun S hs => (Fr.refl S w').setCell (Or.inl hs) _
  have hnn : ∀ (u : Value), (u = mv ∨ u = gv ∨ u = tv ∨ u = fv) → (∀ b, u.ownBlock = some b → fv.ownBlock ≠ some b) → ∀ b, u.ownBlock = some b → fv'.ownBlock ≠ some b := by
    intro u hu hd b hb e
    rcases hat' b e with e | e
    · exact hd b hb e
    · have := hlt u hu b hb; omega
  refine ⟨((h.fr.trans hF (fun b hb => Or.inr (by have := (hin b hb).1; omega))).setNew (by omega) _), hC, ((hset [C] (by simp)).keep (hF.keep h.b (fun hb => by have := (hin _ hb).1; omega)) (by simp; omega)), ?c, ((h.mem.keep hF (fun b hb => by simpa using ((fun b hb => h.dmf b hb) b hb))).keep (hset [C] (by simp)) (fun b hb => by have := (h.fm b hb).2; simpa using this)), ((h.gens.keep hF (fun b hb => by simpa using ((fun b hb => h.dgf b hb) b hb))).keep (hset [C] (by simp)) (fun b hb => by have := (h.fg b hb).2; simpa using this)), ((h.taken.keep hF (fun b hb => by simpa using ((fun b hb => h.dtf b hb) b hb))).keep (hset [C] (by simp)) (fun b hb => by have := (h.ft b hb).2; simpa using this)), (hown.keep (hset [C] (by simp)) (fun b hb => by have := (hnew b hb).2; simpa using this)), h.fm, h.fg, h.ft, hnew, h.dmg, h.dmt, (hnn mv (Or.inl rfl) (fun b hb => h.dmf b hb)), h.dgt, (hnn gv (Or.inr (Or.inl rfl)) (fun b hb => h.dgf b hb)), (hnn tv (Or.inr (Or.inr (Or.inl rfl))) (fun b hb => h.dtf b hb))⟩
  have hh := set_block (hF.keep h.c (fun hb => (hin _ hb).2 rfl)) 6 fv'
  simpa using hh

def MadeRef (w : World) (cs : List Int) (W M : Nat) (k : Int) (e : Ending) (w' : World) : Prop :=
  ∃ X, e = .returned (.tuple #[X, .bool true]) ∧ RefS w' X k.toNat (SS.new ⟨cs, 0⟩ W M) ∧ Fr [] w w' ∧ ∀ j ∈ blks X, w.heap.size ≤ j

set_option maxRecDepth 100000 in
set_option maxHeartbeats 2000000 in
theorem rnew_yes (w : World) (W M : Nat) (k : Int) {v : Value} {cs : List Int} (h : Ref w v cs) (h1 : 1 ≤ W) (h2 : 1 ≤ M) (hw : W ≤ 65536) (hm : M ≤ 65536) (hl : cs.length + W * M ≤ 65536) (hk : 0 ≤ k) (hk' : k ≤ 1000000000000) :
    Calls Try.prog 27 #[.agg #[v, .int .i64 k], .int .i64 W, .int .i64 M] w (MadeRef w cs W M k) := by
  have H := Lib.hid h
  obtain ⟨s, c, rfl⟩ := h.form
  have t1 : decide ((W : Int) < 1) = false := by simp; omega
  have t2 : decide ((M : Int) < 1) = false := by simp; omega
  have t3 : decide (65536 < (W : Int)) = false := by simp; omega
  have t4 : decide (65536 < (M : Int)) = false := by simp; omega
  have hmul : (W : Int) * M = ((W * M : Nat) : Int) := by simp
  have hx : IntKind.i64.wrap ((W : Int) * M) = W * M := IntWalk.i64_in _ ⟨by rw [hmul]; omega, by rw [hmul]; omega⟩
  have HG : Hid (∀ X, Fr [] w X → Calls Try.prog 38 #[.agg #[.slice s cs.length c, .int .i64 k], .int .i64 ((W : Int) * M)] X (GrownRef X cs (W * M) k)) := Lib.hid (fun X hX => by
    rw [hmul]; exact rgrow_in X (W * M) k (h.keep hX (by simp)) hl hk hk')
  clear h hmul
  go_enter Try.func27, Try.ntmps27
  go_wp2_with (go_at_call 38; refine (HG.out _ (by exact ((Fr.refl [] w).alloc _).alloc _)).mono ?_; rintro e w1 ⟨mv, rfl, hnew⟩; refine go_stop ?_)
  obtain ⟨hr, hf, hlo⟩ := hnew
  obtain ⟨hA, hB, hf'⟩ := two_boxes hf
  have hs1 : w.heap.size + 1 < w1.heap.size := lt_of_block hB
  have hlo' : ∀ b, mv.ownBlock = some b → w.heap.size + 1 < b := by
    intro b hb; have := hlo b hb
    first | omega | (simp at this; omega)
  obtain ⟨cs2, hcs2⟩ : ∃ cs2, cs2 = cs ++ List.replicate (W * M) 0 := ⟨_, rfl⟩
  rw [← hcs2] at hr
  have HCS2 := Lib.hid hcs2
  have HR := Lib.hid hr
  have HF := Lib.hid hf'
  have HB := Lib.hid hB
  have HLO := Lib.hid hlo'
  obtain ⟨ma, mc, rfl⟩ := hr.form
  clear hr hf hlo hA hB hf' hlo' hcs2
  unfold Stop
  go_wp2_with fail
  go_loopw [12] (fun i wr => ∃ (j : Nat) (gv tv fv : Value), i = .int .i64 j ∧ j ≤ M ∧ NewRel w (.cells #[.slice none 0 0, .int .i64 0, .int .i64 0, .int .i64 0, .slice none 0 0, .slice none 0 0, .slice none 0 0] 32 (0, 0)) (w1.heap.size + 1) (.slice ma cs2.length mc) k cs2 cs.length W gv tv fv j j j wr) (fun i _ => M - (intOf i).toNat)
  case atStart =>
    refine ⟨0, .slice none 0 0, .slice none 0 0, .slice none 0 0, rfl, Nat.zero_le _, ⟨(HF.out.alloc _).alloc _, by omega, blk_alloc (blk_alloc HB.out _) _, ?_, (HR.out.alloc _).alloc _, Lies.nil _ _ _, Lies.nil _ _ _, Lies.nil _ _ _, ?_, by simp [Value.ownBlock], by simp [Value.ownBlock], by simp [Value.ownBlock], by simp [Value.ownBlock], by simp [Value.ownBlock], by simp [Value.ownBlock], by simp [Value.ownBlock], by simp [Value.ownBlock], by simp [Value.ownBlock]⟩⟩
    · have := new_block (w1.alloc (.cells #[.slice ma cs2.length mc, .int .i64 k] 28)) (.cells #[.slice ma cs2.length mc, .int .i64 k, .int .i64 cs.length, .int .i64 W, .slice none 0 0, .slice none 0 0, .slice none 0 0] 32)
      simpa using this
    · intro b hb
      have h1 := HLO.out b hb
      have h2 := (HR.out.lt b hb).2
      omega
  case round =>
    obtain ⟨j, gv, tv, fv, rfl, hj, hz⟩ := hrel
    obtain ⟨b0, b1, b2, b3, b4, b5, b6, fb7⟩ := cells7 hz.b
    obtain ⟨c0, c1, c2, c3, c4, c5, c6, fc7⟩ := cells7 hz.c
    have hsC : w1.heap.size + 1 < wr.heap.size := lt_of_block hz.c
    obtain ⟨ga, gc, rfl, _⟩ := hz.gens.form
    obtain ⟨ta, tc, rfl, _⟩ := hz.taken.form
    obtain ⟨fa, fc, rfl, _⟩ := hz.free.form
    have HZ := Lib.hid hz
    by_cases hlt : j < M
    · clear hz
      go_wp2_with (at_builtin; refine wpList_append_any rfl (.tmp 50) (.tmp 51) 29 3 (.int .i64 0) 1 8 rfl int_slice int_info rfl (by decide) _ j (List.replicate j (.int .i64 0)) rfl ?own _ 1 [.int .i64 0] rfl ?src (one_int _ _) (by unfold maxLen; omega) (by omega) ?app)
      case own => exact HZ.out.gens.alloc _
      case src => exact lies_one _ _ _ _ (by simp)
      case app =>
      intro gv' w2 hown hfr hat
      have hz := HZ.out.next_g (by simpa [List.replicate_succ'] using hown) hfr (by simpa using hat)
      have HZ2 := Lib.hid hz
      have f2 := (hfr.keep (blk_alloc HZ.out.c _) (fun hb => (HZ.out.fg _ (by simpa using hb)).2 rfl))
      obtain ⟨ga', gc', rfl, _⟩ := hown.form
      obtain ⟨x0, x1, x2, x3, x4, x5, x6, fx7⟩ := cells7 f2
      clear hown hfr hat hz f2 c0 c1 c2 c3 c4 c5 c6 fc7
      go_wp2_with (at_builtin; refine wpList_append_any rfl (.tmp 55) (.tmp 56) 30 4 (.bool false) 1 1 rfl bool_slice bool_info rfl (by decide) _ j (List.replicate j (.bool false)) rfl ?own _ 1 [.bool false] rfl ?src (one_bool _) (by unfold maxLen; omega) (by omega) ?app)
      case own => exact HZ2.out.taken.alloc _
      case src => exact lies_one _ _ _ _ (by simp)
      case app =>
      intro tv' w3 hown hfr hat
      have hz := HZ2.out.next_t (by simpa [List.replicate_succ'] using hown) hfr (by simpa using hat)
      have HZ3 := Lib.hid hz
      have f2 := (hfr.keep (blk_alloc HZ2.out.c _) (fun hb => (HZ2.out.ft _ (by simpa using hb)).2 rfl))
      obtain ⟨ta', tc', rfl, _⟩ := hown.form
      clear x0 x1 x2 x3 x4 x5 x6 fx7
      obtain ⟨x0, x1, x2, x3, x4, x5, x6, fx7⟩ := cells7 f2
      clear hown hfr hat hz f2
      go_wp2_with (at_builtin; refine wpList_append_any rfl (.tmp 60) (.tmp 62) 29 3 (.int .i64 0) 1 8 rfl int_slice int_info rfl (by decide) _ j ((List.range j).map fun (q : Nat) => Value.int .i64 q) rfl ?own _ 1 [.int .i64 j] rfl ?src (one_int _ _) (by unfold maxLen; omega) (by omega) ?app)
      case own => exact HZ3.out.free.alloc _
      case src => exact lies_one _ _ _ _ (by simp)
      case app =>
      intro fv' w4 hown hfr hat
      have hz := HZ3.out.next_f (by simpa [List.range_succ] using hown) hfr (by simpa using hat)
      have HZ4 := Lib.hid hz
      have f2 := (hfr.keep (blk_alloc HZ3.out.c _) (fun hb => (HZ3.out.ff _ (by simpa using hb)).2 rfl))
      obtain ⟨fa', fc', rfl, _⟩ := hown.form
      clear x0 x1 x2 x3 x4 x5 x6 fx7
      obtain ⟨x0, x1, x2, x3, x4, x5, x6, fx7⟩ := cells7 f2
      clear hown hfr hat hz f2
      go_wp2
      go_roundw
      case rel => exact ⟨j + 1, _, _, _, by go_num, by omega, HZ4.out⟩
      case measure => simp [intOf]; omega
    · obtain rfl : j = M := by omega
      clear hz
      have hcC : ¬ w1.heap.size + 1 = w.heap.size + 1 := by omega
      go_wp2
      refine bodyPost_ret (v := .tuple #[.agg #[.slice ma cs2.length mc, .int .i64 k, .int .i64 cs.length, .int .i64 W, .slice ga j gc, .slice ta j tc, .slice fa j fc], .bool true]) (by simp [results, Try.results27, go_sem, *]) rfl ⟨_, rfl, ?_⟩
      have hh := HZ.out
      have hF : ∀ u0 u1 u2 u3 u4 u5 u6, Fr [w.heap.size + 1] wr (((((((wr.setCell ⟨w.heap.size + 1, 0, none⟩ u0).setCell ⟨w.heap.size + 1, 1, none⟩ u1).setCell ⟨w.heap.size + 1, 2, none⟩ u2).setCell ⟨w.heap.size + 1, 3, none⟩ u3).setCell ⟨w.heap.size + 1, 4, none⟩ u4).setCell ⟨w.heap.size + 1, 5, none⟩ u5).setCell ⟨w.heap.size + 1, 6, none⟩ u6) := fun u0 u1 u2 u3 u4 u5 u6 =>
        (((((((Fr.refl _ wr).setCell (Or.inl (by simp)) u0).setCell (Or.inl (by simp)) u1).setCell (Or.inl (by simp)) u2).setCell (Or.inl (by simp)) u3).setCell (Or.inl (by simp)) u4).setCell (Or.inl (by simp)) u5).setCell (Or.inl (by simp)) u6
      have hs2 : SS.new ⟨cs, 0⟩ W j = ⟨cs.length, W, List.replicate j (0, false), List.range j, cs2⟩ := by rw [HCS2.out]; rfl
      rw [hs2]
      refine ⟨⟨_, _, _, _, k, rfl, ⟨hh.mem.keep (hF _ _ _ _ _ _ _) (fun b hb => by have := (hh.fm b hb).1; simp; omega), ?_, ?_, ?_, hk, by omega⟩⟩, hh.fr.trans (hF _ _ _ _ _ _ _) (by intro x hx; simp at hx; exact Or.inr (by omega)), ?_⟩
      · simpa using hh.gens.keep (hF _ _ _ _ _ _ _) (fun b hb => by have := (hh.fg b hb).1; simp; omega)
      · simpa using hh.taken.keep (hF _ _ _ _ _ _ _) (fun b hb => by have := (hh.ft b hb).1; simp; omega)
      · simpa using hh.free.keep (hF _ _ _ _ _ _ _) (fun b hb => by have := (hh.ff b hb).1; simp; omega)
      · intro b hb
        have hb : (Value.slice ma cs2.length mc).ownBlock = some b ∨ (Value.slice ga j gc).ownBlock = some b ∨ (Value.slice ta j tc).ownBlock = some b ∨ (Value.slice fa j fc).ownBlock = some b := by
          have := (blks_refAgg (.slice ma cs2.length mc) (.slice ga j gc) (.slice ta j tc) (.slice fa j fc) k ⟨cs.length, W, [], [], []⟩ b).1 hb
          exact this
        rcases hb with h | h | h | h
        · have := (hh.fm b h).1; omega
        · have := (hh.fg b h).1; omega
        · have := (hh.ft b h).1; omega
        · have := (hh.ff b h).1; omega
end Go.Proofs.Ytkampbbginamhaa
