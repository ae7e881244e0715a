/- What may be, may not be with a key that may not, a value that is too long, an op twice, or a kind that is none: for every request and every number. No condition. -/
import Derived.Test.YtjclbgeclopheaaTxAwake
import Derived.Test.YtjclbgeclopheaaTxLaw
import Derived.Test.YtjclbgeclopheaaEvLaw2
namespace Go.Proofs.Ytjclbgeclopheaa.lawTxnRefused
open Go.ChangeShapes Go.WideShapes Go.ChangeAt Go.RowKit Go.Deep Go.ChangeMaps
set_option linter.unusedVariables false
set_option linter.unusedSimpArgs false

def l9 : Od := ⟨⟨#[49, 50, 51, 52, 53, 54, 55, 56, 57]⟩, ⟨#[]⟩, false, by decide⟩
def lv9 : Od := ⟨⟨#[97]⟩, ⟨#[49, 50, 51, 52, 53, 54, 55, 56, 57]⟩, false, by decide⟩
def la0 : Od := ⟨⟨#[97]⟩, ⟨#[]⟩, false, by decide⟩
def la1 : Od := ⟨⟨#[97]⟩, ⟨#[]⟩, true, by decide⟩
def c3a : Cm := ⟨3, ⟨#[97]⟩, ⟨#[]⟩, 0, by decide⟩
def c00 : Cm := ⟨0, ⟨#[]⟩, ⟨#[]⟩, 0, by decide⟩
theorem may_one {q : Rq} (h : mayQ q = false) : mayE q = 1 := by unfold mayE; rw [h]; rfl
theorem may_kind (q : Rq) {k : Int} (hk : 4 ≤ k) : mayE { q with kind := k } = 1 := may_one (by
  unfold mayQ
  rw [if_neg (by show ¬ k = 1; omega), if_neg (by show ¬ k = 2; omega), if_neg (by show ¬ k = 3; omega)])
theorem may_thn (q : Rq) (hk : q.kind = 1) {x : Od} (hx : opB x = false) : mayE { q with thn := q.thn ++ [x] } = 1 := may_one (by
  unfold mayQ
  rw [if_pos (by exact hk)]
  simp [opsB, hx])
theorem may_els (q : Rq) (hk : q.kind = 1) : mayE { q with els := q.els ++ [la0, la1] } = 1 := may_one (by
  unfold mayQ
  rw [if_pos (by exact hk)]
  have h : ¬ ((q.els ++ [la0, la1]).map Od.key).Nodup := by
    rw [List.map_append, List.nodup_append]
    rintro ⟨_, h2, _⟩
    simp [la0, la1] at h2
  unfold opsB
  rw [decide_eq_false h]; simp)
theorem may_cmps (q : Rq) (hk : q.kind = 1) : mayE { q with cmps := q.cmps ++ [c3a] } = 1 := may_one (by
  unfold mayQ
  rw [if_pos (by exact hk)]
  simp [cmsB, cmB, c3a])
theorem may_five (q : Rq) (hk : q.kind = 1) : mayE { q with cmps := List.replicate 5 c00 } = 1 := may_one (by
  unfold mayQ
  rw [if_pos (by exact hk)]
  simp [cmsB])
theorem opB_l9 : opB l9 = false := by
  have h : (⟨#[49, 50, 51, 52, 53, 54, 55, 56, 57]⟩ : ByteArray).toList = [49, 50, 51, 52, 53, 54, 55, 56, 57] := by simp only [ByteArray.toList_eq]
  simp [opB, l9, mayB, h]
theorem opB_lv9 : opB lv9 = false := by
  simp [opB, lv9]
  decide
theorem lies_lit (w : World) (e : TypeId) (k sz : Nat) (c : List Value) (hc : c.length = k * sz) (hk : k ≤ maxLen) : Lies (w.alloc (.cells c.toArray e)) e sz (.slice (some ⟨w.heap.size, 0, none⟩) k k) k c :=
  ⟨hc, Or.inr ⟨_, 0, k, c.toArray, rfl, new_block _ _, Nat.le_refl _, hk, by simp [hc], fun j hj => by simp⟩⟩
theorem may_zero {q : Rq} : mayE q = 0 ↔ mayQ q = true := by
  unfold mayE
  cases mayQ q <;> simp
set_option maxRecDepth 100000 in
set_option maxHeartbeats 8000000 in
theorem walk (q : Rq) (at_ : Int) (cv tv ev : Value) (w : World) (hq : RqIn w q cv tv ev) (hat : (Lit.int .u8 at_).wf = true) :
    Calls Try.prog 7 #[.agg #[.int .i64 q.kind, .string q.f, .string q.t, .int .i64 q.rev, cv, tv, ev], .int .u8 at_] w fun e w' => e = .returned (.bool true) ∧ Below w.heap.size w w' := by
  have ha8 : 0 ≤ at_ ∧ at_ ≤ 255 := by simpa [Lit.wf, IntKind.min, IntKind.max, IntKind.signed, IntKind.bits] using hat
  obtain ⟨aa, rfl⟩ := Int.eq_ofNat_of_zero_le ha8.1
  clear hat
  have HQ := Lib.hid hq
  obtain ⟨s2, c2, rfl, la2, ma2⟩ := LIn.form hq.c
  obtain ⟨s3, c3, rfl, la3, ma3⟩ := LIn.form hq.t
  obtain ⟨s4, c4, rfl, la4, ma4⟩ := LIn.form hq.e
  unfold maxLen at ma2 ma3 ma4
  clear hq
  obtain ⟨E, hE⟩ : ∃ E, E = mayE q := ⟨_, rfl⟩
  have HMAY : Hid (∀ X, Fr [] w X → Calls Try.prog 15 #[.agg #[.int .i64 q.kind, .string q.f, .string q.t, .int .i64 q.rev, .slice s2 q.cmps.length c2, .slice s3 q.thn.length c3, .slice s4 q.els.length c4]] X fun e w' => e = .returned (.int .i64 E) ∧ Fr [] X w') := Lib.hid (fun X hX => by rw [hE]; exact txn_may q _ _ _ X (HQ.out.keep0 hX))
  have HE := Lib.hid hE
  clear hE
  have HBQ : Hid ((w.alloc (.cells #[.int .i64 q.kind, .string q.f, .string q.t, .int .i64 q.rev, .slice s2 q.cmps.length c2, .slice s3 q.thn.length c3, .slice s4 q.els.length c4] 28)).heap[w.heap.size]? = some (.cells #[.int .i64 q.kind, .string q.f, .string q.t, .int .i64 q.rev, .slice s2 q.cmps.length c2, .slice s3 q.thn.length c3, .slice s4 q.els.length c4] 28 (0, 0))) := Lib.hid (new_block _ _)
  have HF0 : Hid (Fr [] w (w.alloc (.cells #[.int .i64 q.kind, .string q.f, .string q.t, .int .i64 q.rev, .slice s2 q.cmps.length c2, .slice s3 q.thn.length c3, .slice s4 q.els.length c4] 28))) := Lib.hid ((Fr.refl [] w).alloc _)
  go_enter Try.func7, Try.ntmps7
  go_wp2_with fail
  generalize w.alloc (.cells #[.int .i64 q.kind, .string q.f, .string q.t, .int .i64 q.rev, .slice s2 q.cmps.length c2, .slice s3 q.thn.length c3, .slice s4 q.els.length c4] 28) = w0 at *
  go_wp2_with (go_at_call 8; refine (tx_awake _).mono ?_; rintro e w1 ⟨rfl, h1⟩; refine go_stop ?_)
  unfold Stop
  have HF1 := Lib.hid (HF0.out.trans h1 (by simp))
  have HB1 := Lib.hid (h1.keep HBQ.out (by simp))
  obtain ⟨b0, b1, b2, b3, b4, b5, b6, _⟩ := cells7 HB1.out
  clear h1 HBQ
  go_wp2_with (go_at_call 15; refine (HMAY.out _ HF1.out).mono ?_; rintro e w2 ⟨rfl, h2⟩; refine go_stop ?_)
  unfold Stop
  have HFW := Lib.hid (HF1.out.trans h2 (by simp))
  have HQB := Lib.hid (h2.keep HB1.out (by simp))
  clear h2 HB1 b0 b1 b2 b3 b4 b5 b6 HMAY
  obtain ⟨b0, b1, b2, b3, b4, b5, b6, _⟩ := cells7 HQB.out
  by_cases hE0 : E = 0
  · subst hE0
    have hmay := may_zero.1 HE.out.symm
    by_cases hk1 : q.kind = 1
    · have HK1 := Lib.hid hk1
      have hlim : q.cmps.length ≤ 4 ∧ q.thn.length ≤ 4 ∧ q.els.length ≤ 4 := by
        unfold mayQ at hmay
        rw [if_pos hk1] at hmay
        simp only [Bool.and_eq_true, opsB, cmsB, decide_eq_true_eq] at hmay
        exact ⟨hmay.1.1.2, hmay.1.2.2, hmay.2.2⟩
      obtain ⟨f1, f2, f3⟩ := hlim
      rw [hk1] at b0 HQB
      have HRN : Hid (∀ (X : World) (r : Rq) (u v x : Value), RqIn X r u v x → mayE r = 1 → Calls Try.prog 15 #[.agg #[.int .i64 r.kind, .string r.f, .string r.t, .int .i64 r.rev, u, v, x]] X fun e w' => e = .returned (.int .i64 1) ∧ Fr [] X w') := Lib.hid (fun X r u v x h1 h2 => by have := txn_may r u v x X h1; rw [h2] at this; exact this)
      have hconv : IntKind.i64.wrap (aa : Int) = (aa : Int) := IntWalk.i64_in _ ⟨by omega, by omega⟩
      have hsum : IntKind.i64.wrap (4 + (aa : Int)) = 4 + (aa : Int) := IntWalk.i64_in _ ⟨by omega, by omega⟩
      have hlq := lt_of_block HQB.out
      have n1 : ¬ w.heap.size = w2.heap.size := by omega
      have n2 : ¬ w2.heap.size = w.heap.size := by omega
      clear hmay hk1
      go_upto_region 6 with fail
      have HBa : Hid ((w2.alloc (.cells #[.int .i64 (4 + (aa : Int)), .string q.f, .string q.t, .int .i64 q.rev, .slice s2 q.cmps.length c2, .slice s3 q.thn.length c3, .slice s4 q.els.length c4] 28)).heap[w2.heap.size]? = some (.cells #[.int .i64 (4 + (aa : Int)), .string q.f, .string q.t, .int .i64 q.rev, .slice s2 q.cmps.length c2, .slice s3 q.thn.length c3, .slice s4 q.els.length c4] 28 (0, 0))) := Lib.hid (new_block _ _)
      have hst : Fr [] w2 (w2.alloc (.cells #[.int .i64 (4 + (aa : Int)), .string q.f, .string q.t, .int .i64 q.rev, .slice s2 q.cmps.length c2, .slice s3 q.thn.length c3, .slice s4 q.els.length c4] 28)) := (Fr.refl [] w2).alloc _
      replace HFW := Lib.hid (HFW.out.trans hst (by simp))
      replace HQB := Lib.hid (hst.keep HQB.out (by simp))
      clear hst b0 b1 b2 b3 b4 b5 b6 n1 n2 hlq
      generalize w2.alloc (.cells #[.int .i64 (4 + (aa : Int)), .string q.f, .string q.t, .int .i64 q.rev, .slice s2 q.cmps.length c2, .slice s3 q.thn.length c3, .slice s4 q.els.length c4] 28) = WA at *
      generalize w2.heap.size = ba at *
      have HRa : Hid (Fr [] WA WA) := Lib.hid (Fr.refl _ _)
      -- b
      obtain ⟨q0, q1, q2, q3, q4, q5, q6, _⟩ := cells7 HQB.out
      have hlt := lt_of_block HQB.out
      have n1 : ¬ w.heap.size = WA.heap.size := by omega
      have n2 : ¬ WA.heap.size = w.heap.size := by omega
      have n3 : ¬ w.heap.size = WA.heap.size + 1 := by omega
      have n4 : ¬ WA.heap.size + 1 = w.heap.size := by omega
      have n5 : w.heap.size < WA.heap.size + 1 := by omega
      go_wp2_with (at_builtin; refine go_stop ?_)
      unfold Stop
      have HNB : Hid (((WA.alloc (.cells #[.int .i64 1, .string q.f, .string q.t, .int .i64 q.rev, .slice s2 q.cmps.length c2, .slice s3 q.thn.length c3, .slice s4 q.els.length c4] 28)).alloc (.cells #[] 52)).heap[WA.heap.size]? = some (.cells #[.int .i64 1, .string q.f, .string q.t, .int .i64 q.rev, .slice s2 q.cmps.length c2, .slice s3 q.thn.length c3, .slice s4 q.els.length c4] 28 (0, 0))) := Lib.hid (blk_alloc (new_block _ _) _)
      have HST : Hid (Fr [] WA ((WA.alloc (.cells #[.int .i64 1, .string q.f, .string q.t, .int .i64 q.rev, .slice s2 q.cmps.length c2, .slice s3 q.thn.length c3, .slice s4 q.els.length c4] 28)).alloc (.cells #[] 52))) := Lib.hid (((Fr.refl [] WA).alloc _).alloc _)
      have HEM : Hid (Lies ((WA.alloc (.cells #[.int .i64 1, .string q.f, .string q.t, .int .i64 q.rev, .slice s2 q.cmps.length c2, .slice s3 q.thn.length c3, .slice s4 q.els.length c4] 28)).alloc (.cells #[] 52)) 52 3 (.slice (some ⟨WA.heap.size + 1, 0, none⟩) 0 0) 0 []) := Lib.hid (lies_empty (WA.alloc (.cells #[.int .i64 1, .string q.f, .string q.t, .int .i64 q.rev, .slice s2 q.cmps.length c2, .slice s3 q.thn.length c3, .slice s4 q.els.length c4] 28)) 52 3 (WA.heap.size + 1) (by simp))
      have HSZ : Hid (((WA.alloc (.cells #[.int .i64 1, .string q.f, .string q.t, .int .i64 q.rev, .slice s2 q.cmps.length c2, .slice s3 q.thn.length c3, .slice s4 q.els.length c4] 28)).alloc (.cells #[] 52)).heap.size = WA.heap.size + 1 + 1) := Lib.hid (by simp)
      obtain ⟨bb, hbb⟩ : ∃ bb, bb = WA.heap.size := ⟨_, rfl⟩
      have HBX : Hid (bb = WA.heap.size) := Lib.hid hbb
      rw [← hbb] at HNB HEM HSZ hlt ⊢
      have HLT := Lib.hid hlt
      clear hbb q0 q1 q2 q3 q4 q5 q6 n1 n2 n3 n4 n5 hlt
      generalize ((WA.alloc (.cells #[.int .i64 1, .string q.f, .string q.t, .int .i64 q.rev, .slice s2 q.cmps.length c2, .slice s3 q.thn.length c3, .slice s4 q.els.length c4] 28)).alloc (.cells #[] 52)) = W1 at *
      refine wpList_append_src rfl (.tmp 28) (.tmp 30) 26 52 (.agg #[.string ⟨#[]⟩, .string ⟨#[]⟩, .bool false]) 3 40 rfl od_slice od_info rfl (by decide) (.slice (some ⟨bb + 1, 0, none⟩) 0 0) 0 [] rfl HEM.out (.slice s3 q.thn.length c3) q.thn.length (allC Od.cells q.thn) rfl (LIn.src (LIn.keep0 HQ.out.t (HFW.out.trans HST.out (by simp))) Od.clen (by decide)) (allC_ones Od.cone q.thn) (by unfold maxLen; omega) (by omega) ?ap1
      case ap1 =>
      intro v1 W2 h1 h2 h3
      obtain ⟨t1, d1, rfl, _, _⟩ := h1.form
      have HV1 : Hid (∀ k, (Value.slice t1 (0 + q.thn.length) d1).ownBlock = some k → bb < k) := Lib.hid (fun k hk => by
        rcases h3 k hk with h4 | h4
        · simp [Value.ownBlock] at h4; omega
        · have := HSZ.out; omega)
      have HL1 : Hid (Lies W2 52 3 (.slice t1 (0 + q.thn.length) d1) (0 + q.thn.length) (allC Od.cells q.thn)) := Lib.hid (by simpa using h1)
      replace HST := Lib.hid (HST.out.trans h2 (fun k hk => Or.inr (by have := HBX.out; simp [Value.ownBlock] at hk; omega)))
      replace HNB := Lib.hid (h2.keep HNB.out (by simp [Value.ownBlock]))
      have HS2 := Lib.hid h2.size
      clear h1 h2 h3 HEM
      rw [Nat.zero_add] at HV1 HL1 ⊢
      go_wp2_with (at_builtin; refine go_stop ?_)
      unfold Stop
      refine wpList_append_any rfl (.tmp 31) (.tmp 33) 26 52 (.agg #[.string ⟨#[]⟩, .string ⟨#[]⟩, .bool false]) 3 40 rfl od_slice od_info rfl (by decide) (.slice t1 q.thn.length d1) q.thn.length (allC Od.cells q.thn) rfl (HL1.out.alloc (.cells (allC Od.cells [l9]).toArray 52)) _ 1 (allC Od.cells [l9]) rfl (lies_lit W2 52 1 3 (allC Od.cells [l9]) rfl (by decide)) (allC_ones Od.cone [l9]) (by unfold maxLen; omega) (by omega) ?ap2
      case ap2 =>
      intro v2 W3 h1 h2 h3
      obtain ⟨ttb, ddb, rfl, _, _⟩ := h1.form
      have hal : Fr [] W2 (W2.alloc (.cells (allC Od.cells [l9]).toArray 52)) := (Fr.refl [] W2).alloc _
      have HV2 : Hid (∀ k, (Value.slice ttb (q.thn.length + 1) ddb).ownBlock = some k → bb < k) := Lib.hid (fun k hk => by
        rcases h3 k hk with h4 | h4
        · exact HV1.out k h4
        · have := HSZ.out; have := HS2.out; simp at h4; omega)
      have HL2 : Hid (Lies W3 52 3 (.slice ttb (q.thn.length + 1) ddb) (q.thn.length + 1) (allC Od.cells (q.thn ++ [l9]))) := Lib.hid (by rw [allC_app]; exact h1)
      have hout : ∀ k ∈ (Value.slice t1 q.thn.length d1).ownBlock.toList, bb < k := fun k hk => HV1.out k (Option.mem_toList.1 hk)
      replace HST := Lib.hid ((HST.out.trans hal (by simp)).trans h2 (fun k hk => Or.inr (by have := HBX.out; have := hout k hk; omega)))
      replace HNB := Lib.hid (h2.keep (hal.keep HNB.out (by simp)) (fun hm => by have := hout _ hm; omega))
      clear h1 h2 h3 HV1 HL1 hout hal HS2 HSZ
      obtain ⟨q0, q1, q2, q3, q4, q5, q6, qf⟩ := cells7 HNB.out
      have qf' := qf 5
      have qlt := lt_of_block HNB.out
      have hfs : Fr [bb] W3 (W3.setCell ⟨bb, 5, none⟩ (.slice ttb (q.thn.length + 1) ddb)) := (Fr.refl [bb] W3).setCell (p := ⟨bb, 5, none⟩) (Or.inl (by simp)) _
      have HBb : Hid ((W3.setCell ⟨bb, 5, none⟩ (.slice ttb (q.thn.length + 1) ddb)).heap[bb]? = some (.cells #[.int .i64 1, .string q.f, .string q.t, .int .i64 q.rev, .slice s2 q.cmps.length c2, .slice ttb (q.thn.length + 1) ddb, .slice s4 q.els.length c4] 28 (0, 0))) := Lib.hid (by simpa using set_block HNB.out 5 (.slice ttb (q.thn.length + 1) ddb))
      have HIb : Hid (OdIn (W3.setCell ⟨bb, 5, none⟩ (.slice ttb (q.thn.length + 1) ddb)) (.slice ttb (q.thn.length + 1) ddb) (q.thn ++ [l9])) := Lib.hid (by
        have hl : LAt Od.cells 52 3 W3 (.slice ttb (q.thn.length + 1) ddb) (q.thn ++ [l9]) := by unfold LAt; rw [List.length_append]; exact HL2.out
        exact LAt.read (hl.keep hfs (fun j hj hm => by have := HV2.out j hj; simp at hm; omega)) Od.clen)
      replace HST := Lib.hid (HST.out.trans hfs (fun j hj => Or.inr (by have := HBX.out; simp at hj; omega)))
      clear hfs HL2 HV2 HNB qf
      go_upto_region 8 with fail
      generalize W3.setCell ⟨bb, 5, none⟩ (.slice ttb (q.thn.length + 1) ddb) = WB at *
      replace HFW := Lib.hid (HFW.out.trans HST.out (by simp))
      replace HQB := Lib.hid (HST.out.keep HQB.out (by simp))
      replace HRa := Lib.hid (HRa.out.trans HST.out (by simp))
      have HRb : Hid (Fr [] WB WB) := Lib.hid (Fr.refl _ _)
      clear HST q0 q1 q2 q3 q4 q5 q6 qf' qlt HLT HBX
      -- c
      obtain ⟨q0, q1, q2, q3, q4, q5, q6, _⟩ := cells7 HQB.out
      have hlt := lt_of_block HQB.out
      have n1 : ¬ w.heap.size = WB.heap.size := by omega
      have n2 : ¬ WB.heap.size = w.heap.size := by omega
      have n3 : ¬ w.heap.size = WB.heap.size + 1 := by omega
      have n4 : ¬ WB.heap.size + 1 = w.heap.size := by omega
      have n5 : w.heap.size < WB.heap.size + 1 := by omega
      go_wp2_with (at_builtin; refine go_stop ?_)
      unfold Stop
      have HNB : Hid (((WB.alloc (.cells #[.int .i64 1, .string q.f, .string q.t, .int .i64 q.rev, .slice s2 q.cmps.length c2, .slice s3 q.thn.length c3, .slice s4 q.els.length c4] 28)).alloc (.cells #[] 52)).heap[WB.heap.size]? = some (.cells #[.int .i64 1, .string q.f, .string q.t, .int .i64 q.rev, .slice s2 q.cmps.length c2, .slice s3 q.thn.length c3, .slice s4 q.els.length c4] 28 (0, 0))) := Lib.hid (blk_alloc (new_block _ _) _)
      have HST : Hid (Fr [] WB ((WB.alloc (.cells #[.int .i64 1, .string q.f, .string q.t, .int .i64 q.rev, .slice s2 q.cmps.length c2, .slice s3 q.thn.length c3, .slice s4 q.els.length c4] 28)).alloc (.cells #[] 52))) := Lib.hid (((Fr.refl [] WB).alloc _).alloc _)
      have HEM : Hid (Lies ((WB.alloc (.cells #[.int .i64 1, .string q.f, .string q.t, .int .i64 q.rev, .slice s2 q.cmps.length c2, .slice s3 q.thn.length c3, .slice s4 q.els.length c4] 28)).alloc (.cells #[] 52)) 52 3 (.slice (some ⟨WB.heap.size + 1, 0, none⟩) 0 0) 0 []) := Lib.hid (lies_empty (WB.alloc (.cells #[.int .i64 1, .string q.f, .string q.t, .int .i64 q.rev, .slice s2 q.cmps.length c2, .slice s3 q.thn.length c3, .slice s4 q.els.length c4] 28)) 52 3 (WB.heap.size + 1) (by simp))
      have HSZ : Hid (((WB.alloc (.cells #[.int .i64 1, .string q.f, .string q.t, .int .i64 q.rev, .slice s2 q.cmps.length c2, .slice s3 q.thn.length c3, .slice s4 q.els.length c4] 28)).alloc (.cells #[] 52)).heap.size = WB.heap.size + 1 + 1) := Lib.hid (by simp)
      obtain ⟨bc, hbc⟩ : ∃ bc, bc = WB.heap.size := ⟨_, rfl⟩
      have HBX : Hid (bc = WB.heap.size) := Lib.hid hbc
      rw [← hbc] at HNB HEM HSZ hlt ⊢
      have HLT := Lib.hid hlt
      clear hbc q0 q1 q2 q3 q4 q5 q6 n1 n2 n3 n4 n5 hlt
      generalize ((WB.alloc (.cells #[.int .i64 1, .string q.f, .string q.t, .int .i64 q.rev, .slice s2 q.cmps.length c2, .slice s3 q.thn.length c3, .slice s4 q.els.length c4] 28)).alloc (.cells #[] 52)) = W1 at *
      refine wpList_append_src rfl (.tmp 37) (.tmp 39) 26 52 (.agg #[.string ⟨#[]⟩, .string ⟨#[]⟩, .bool false]) 3 40 rfl od_slice od_info rfl (by decide) (.slice (some ⟨bc + 1, 0, none⟩) 0 0) 0 [] rfl HEM.out (.slice s3 q.thn.length c3) q.thn.length (allC Od.cells q.thn) rfl (LIn.src (LIn.keep0 HQ.out.t (HFW.out.trans HST.out (by simp))) Od.clen (by decide)) (allC_ones Od.cone q.thn) (by unfold maxLen; omega) (by omega) ?ap1
      case ap1 =>
      intro v1 W2 h1 h2 h3
      obtain ⟨t1, d1, rfl, _, _⟩ := h1.form
      have HV1 : Hid (∀ k, (Value.slice t1 (0 + q.thn.length) d1).ownBlock = some k → bc < k) := Lib.hid (fun k hk => by
        rcases h3 k hk with h4 | h4
        · simp [Value.ownBlock] at h4; omega
        · have := HSZ.out; omega)
      have HL1 : Hid (Lies W2 52 3 (.slice t1 (0 + q.thn.length) d1) (0 + q.thn.length) (allC Od.cells q.thn)) := Lib.hid (by simpa using h1)
      replace HST := Lib.hid (HST.out.trans h2 (fun k hk => Or.inr (by have := HBX.out; simp [Value.ownBlock] at hk; omega)))
      replace HNB := Lib.hid (h2.keep HNB.out (by simp [Value.ownBlock]))
      have HS2 := Lib.hid h2.size
      clear h1 h2 h3 HEM
      rw [Nat.zero_add] at HV1 HL1 ⊢
      go_wp2_with (at_builtin; refine go_stop ?_)
      unfold Stop
      refine wpList_append_any rfl (.tmp 40) (.tmp 42) 26 52 (.agg #[.string ⟨#[]⟩, .string ⟨#[]⟩, .bool false]) 3 40 rfl od_slice od_info rfl (by decide) (.slice t1 q.thn.length d1) q.thn.length (allC Od.cells q.thn) rfl (HL1.out.alloc (.cells (allC Od.cells [lv9]).toArray 52)) _ 1 (allC Od.cells [lv9]) rfl (lies_lit W2 52 1 3 (allC Od.cells [lv9]) rfl (by decide)) (allC_ones Od.cone [lv9]) (by unfold maxLen; omega) (by omega) ?ap2
      case ap2 =>
      intro v2 W3 h1 h2 h3
      obtain ⟨ttc, ddc, rfl, _, _⟩ := h1.form
      have hal : Fr [] W2 (W2.alloc (.cells (allC Od.cells [lv9]).toArray 52)) := (Fr.refl [] W2).alloc _
      have HV2 : Hid (∀ k, (Value.slice ttc (q.thn.length + 1) ddc).ownBlock = some k → bc < k) := Lib.hid (fun k hk => by
        rcases h3 k hk with h4 | h4
        · exact HV1.out k h4
        · have := HSZ.out; have := HS2.out; simp at h4; omega)
      have HL2 : Hid (Lies W3 52 3 (.slice ttc (q.thn.length + 1) ddc) (q.thn.length + 1) (allC Od.cells (q.thn ++ [lv9]))) := Lib.hid (by rw [allC_app]; exact h1)
      have hout : ∀ k ∈ (Value.slice t1 q.thn.length d1).ownBlock.toList, bc < k := fun k hk => HV1.out k (Option.mem_toList.1 hk)
      replace HST := Lib.hid ((HST.out.trans hal (by simp)).trans h2 (fun k hk => Or.inr (by have := HBX.out; have := hout k hk; omega)))
      replace HNB := Lib.hid (h2.keep (hal.keep HNB.out (by simp)) (fun hm => by have := hout _ hm; omega))
      clear h1 h2 h3 HV1 HL1 hout hal HS2 HSZ
      obtain ⟨q0, q1, q2, q3, q4, q5, q6, qf⟩ := cells7 HNB.out
      have qf' := qf 5
      have qlt := lt_of_block HNB.out
      have hfs : Fr [bc] W3 (W3.setCell ⟨bc, 5, none⟩ (.slice ttc (q.thn.length + 1) ddc)) := (Fr.refl [bc] W3).setCell (p := ⟨bc, 5, none⟩) (Or.inl (by simp)) _
      have HBc : Hid ((W3.setCell ⟨bc, 5, none⟩ (.slice ttc (q.thn.length + 1) ddc)).heap[bc]? = some (.cells #[.int .i64 1, .string q.f, .string q.t, .int .i64 q.rev, .slice s2 q.cmps.length c2, .slice ttc (q.thn.length + 1) ddc, .slice s4 q.els.length c4] 28 (0, 0))) := Lib.hid (by simpa using set_block HNB.out 5 (.slice ttc (q.thn.length + 1) ddc))
      have HIc : Hid (OdIn (W3.setCell ⟨bc, 5, none⟩ (.slice ttc (q.thn.length + 1) ddc)) (.slice ttc (q.thn.length + 1) ddc) (q.thn ++ [lv9])) := Lib.hid (by
        have hl : LAt Od.cells 52 3 W3 (.slice ttc (q.thn.length + 1) ddc) (q.thn ++ [lv9]) := by unfold LAt; rw [List.length_append]; exact HL2.out
        exact LAt.read (hl.keep hfs (fun j hj hm => by have := HV2.out j hj; simp at hm; omega)) Od.clen)
      replace HST := Lib.hid (HST.out.trans hfs (fun j hj => Or.inr (by have := HBX.out; simp at hj; omega)))
      clear hfs HL2 HV2 HNB qf
      go_upto_region 10 with fail
      generalize W3.setCell ⟨bc, 5, none⟩ (.slice ttc (q.thn.length + 1) ddc) = WC at *
      replace HFW := Lib.hid (HFW.out.trans HST.out (by simp))
      replace HQB := Lib.hid (HST.out.keep HQB.out (by simp))
      replace HRa := Lib.hid (HRa.out.trans HST.out (by simp))
      replace HRb := Lib.hid (HRb.out.trans HST.out (by simp))
      have HRc : Hid (Fr [] WC WC) := Lib.hid (Fr.refl _ _)
      clear HST q0 q1 q2 q3 q4 q5 q6 qf' qlt HLT HBX
      -- d
      obtain ⟨q0, q1, q2, q3, q4, q5, q6, _⟩ := cells7 HQB.out
      have hlt := lt_of_block HQB.out
      have n1 : ¬ w.heap.size = WC.heap.size := by omega
      have n2 : ¬ WC.heap.size = w.heap.size := by omega
      have n3 : ¬ w.heap.size = WC.heap.size + 1 := by omega
      have n4 : ¬ WC.heap.size + 1 = w.heap.size := by omega
      have n5 : w.heap.size < WC.heap.size + 1 := by omega
      go_wp2_with (at_builtin; refine go_stop ?_)
      unfold Stop
      have HNB : Hid (((WC.alloc (.cells #[.int .i64 1, .string q.f, .string q.t, .int .i64 q.rev, .slice s2 q.cmps.length c2, .slice s3 q.thn.length c3, .slice s4 q.els.length c4] 28)).alloc (.cells #[] 52)).heap[WC.heap.size]? = some (.cells #[.int .i64 1, .string q.f, .string q.t, .int .i64 q.rev, .slice s2 q.cmps.length c2, .slice s3 q.thn.length c3, .slice s4 q.els.length c4] 28 (0, 0))) := Lib.hid (blk_alloc (new_block _ _) _)
      have HST : Hid (Fr [] WC ((WC.alloc (.cells #[.int .i64 1, .string q.f, .string q.t, .int .i64 q.rev, .slice s2 q.cmps.length c2, .slice s3 q.thn.length c3, .slice s4 q.els.length c4] 28)).alloc (.cells #[] 52))) := Lib.hid (((Fr.refl [] WC).alloc _).alloc _)
      have HEM : Hid (Lies ((WC.alloc (.cells #[.int .i64 1, .string q.f, .string q.t, .int .i64 q.rev, .slice s2 q.cmps.length c2, .slice s3 q.thn.length c3, .slice s4 q.els.length c4] 28)).alloc (.cells #[] 52)) 52 3 (.slice (some ⟨WC.heap.size + 1, 0, none⟩) 0 0) 0 []) := Lib.hid (lies_empty (WC.alloc (.cells #[.int .i64 1, .string q.f, .string q.t, .int .i64 q.rev, .slice s2 q.cmps.length c2, .slice s3 q.thn.length c3, .slice s4 q.els.length c4] 28)) 52 3 (WC.heap.size + 1) (by simp))
      have HSZ : Hid (((WC.alloc (.cells #[.int .i64 1, .string q.f, .string q.t, .int .i64 q.rev, .slice s2 q.cmps.length c2, .slice s3 q.thn.length c3, .slice s4 q.els.length c4] 28)).alloc (.cells #[] 52)).heap.size = WC.heap.size + 1 + 1) := Lib.hid (by simp)
      obtain ⟨bd, hbd⟩ : ∃ bd, bd = WC.heap.size := ⟨_, rfl⟩
      have HBX : Hid (bd = WC.heap.size) := Lib.hid hbd
      rw [← hbd] at HNB HEM HSZ hlt ⊢
      have HLT := Lib.hid hlt
      clear hbd q0 q1 q2 q3 q4 q5 q6 n1 n2 n3 n4 n5 hlt
      generalize ((WC.alloc (.cells #[.int .i64 1, .string q.f, .string q.t, .int .i64 q.rev, .slice s2 q.cmps.length c2, .slice s3 q.thn.length c3, .slice s4 q.els.length c4] 28)).alloc (.cells #[] 52)) = W1 at *
      refine wpList_append_src rfl (.tmp 46) (.tmp 48) 26 52 (.agg #[.string ⟨#[]⟩, .string ⟨#[]⟩, .bool false]) 3 40 rfl od_slice od_info rfl (by decide) (.slice (some ⟨bd + 1, 0, none⟩) 0 0) 0 [] rfl HEM.out (.slice s4 q.els.length c4) q.els.length (allC Od.cells q.els) rfl (LIn.src (LIn.keep0 HQ.out.e (HFW.out.trans HST.out (by simp))) Od.clen (by decide)) (allC_ones Od.cone q.els) (by unfold maxLen; omega) (by omega) ?ap1
      case ap1 =>
      intro v1 W2 h1 h2 h3
      obtain ⟨t1, d1, rfl, _, _⟩ := h1.form
      have HV1 : Hid (∀ k, (Value.slice t1 (0 + q.els.length) d1).ownBlock = some k → bd < k) := Lib.hid (fun k hk => by
        rcases h3 k hk with h4 | h4
        · simp [Value.ownBlock] at h4; omega
        · have := HSZ.out; omega)
      have HL1 : Hid (Lies W2 52 3 (.slice t1 (0 + q.els.length) d1) (0 + q.els.length) (allC Od.cells q.els)) := Lib.hid (by simpa using h1)
      replace HST := Lib.hid (HST.out.trans h2 (fun k hk => Or.inr (by have := HBX.out; simp [Value.ownBlock] at hk; omega)))
      replace HNB := Lib.hid (h2.keep HNB.out (by simp [Value.ownBlock]))
      have HS2 := Lib.hid h2.size
      clear h1 h2 h3 HEM
      rw [Nat.zero_add] at HV1 HL1 ⊢
      go_wp2_with (at_builtin; refine go_stop ?_)
      unfold Stop
      refine wpList_append_any rfl (.tmp 49) (.tmp 52) 26 52 (.agg #[.string ⟨#[]⟩, .string ⟨#[]⟩, .bool false]) 3 40 rfl od_slice od_info rfl (by decide) (.slice t1 q.els.length d1) q.els.length (allC Od.cells q.els) rfl (HL1.out.alloc (.cells (allC Od.cells [la0, la1]).toArray 52)) _ 2 (allC Od.cells [la0, la1]) rfl (lies_lit W2 52 2 3 (allC Od.cells [la0, la1]) rfl (by decide)) (allC_ones Od.cone [la0, la1]) (by unfold maxLen; omega) (by omega) ?ap2
      case ap2 =>
      intro v2 W3 h1 h2 h3
      obtain ⟨ttd, ddd, rfl, _, _⟩ := h1.form
      have hal : Fr [] W2 (W2.alloc (.cells (allC Od.cells [la0, la1]).toArray 52)) := (Fr.refl [] W2).alloc _
      have HV2 : Hid (∀ k, (Value.slice ttd (q.els.length + 2) ddd).ownBlock = some k → bd < k) := Lib.hid (fun k hk => by
        rcases h3 k hk with h4 | h4
        · exact HV1.out k h4
        · have := HSZ.out; have := HS2.out; simp at h4; omega)
      have HL2 : Hid (Lies W3 52 3 (.slice ttd (q.els.length + 2) ddd) (q.els.length + 2) (allC Od.cells (q.els ++ [la0, la1]))) := Lib.hid (by rw [allC_app]; exact h1)
      have hout : ∀ k ∈ (Value.slice t1 q.els.length d1).ownBlock.toList, bd < k := fun k hk => HV1.out k (Option.mem_toList.1 hk)
      replace HST := Lib.hid ((HST.out.trans hal (by simp)).trans h2 (fun k hk => Or.inr (by have := HBX.out; have := hout k hk; omega)))
      replace HNB := Lib.hid (h2.keep (hal.keep HNB.out (by simp)) (fun hm => by have := hout _ hm; omega))
      clear h1 h2 h3 HV1 HL1 hout hal HS2 HSZ
      obtain ⟨q0, q1, q2, q3, q4, q5, q6, qf⟩ := cells7 HNB.out
      have qf' := qf 6
      have qlt := lt_of_block HNB.out
      have hfs : Fr [bd] W3 (W3.setCell ⟨bd, 6, none⟩ (.slice ttd (q.els.length + 2) ddd)) := (Fr.refl [bd] W3).setCell (p := ⟨bd, 6, none⟩) (Or.inl (by simp)) _
      have HBd : Hid ((W3.setCell ⟨bd, 6, none⟩ (.slice ttd (q.els.length + 2) ddd)).heap[bd]? = some (.cells #[.int .i64 1, .string q.f, .string q.t, .int .i64 q.rev, .slice s2 q.cmps.length c2, .slice s3 q.thn.length c3, .slice ttd (q.els.length + 2) ddd] 28 (0, 0))) := Lib.hid (by simpa using set_block HNB.out 6 (.slice ttd (q.els.length + 2) ddd))
      have HId : Hid (OdIn (W3.setCell ⟨bd, 6, none⟩ (.slice ttd (q.els.length + 2) ddd)) (.slice ttd (q.els.length + 2) ddd) (q.els ++ [la0, la1])) := Lib.hid (by
        have hl : LAt Od.cells 52 3 W3 (.slice ttd (q.els.length + 2) ddd) (q.els ++ [la0, la1]) := by unfold LAt; rw [List.length_append]; exact HL2.out
        exact LAt.read (hl.keep hfs (fun j hj hm => by have := HV2.out j hj; simp at hm; omega)) Od.clen)
      replace HST := Lib.hid (HST.out.trans hfs (fun j hj => Or.inr (by have := HBX.out; simp at hj; omega)))
      clear hfs HL2 HV2 HNB qf
      go_upto_region 12 with fail
      generalize W3.setCell ⟨bd, 6, none⟩ (.slice ttd (q.els.length + 2) ddd) = WD at *
      replace HFW := Lib.hid (HFW.out.trans HST.out (by simp))
      replace HQB := Lib.hid (HST.out.keep HQB.out (by simp))
      replace HRa := Lib.hid (HRa.out.trans HST.out (by simp))
      replace HRb := Lib.hid (HRb.out.trans HST.out (by simp))
      replace HRc := Lib.hid (HRc.out.trans HST.out (by simp))
      have HRd : Hid (Fr [] WD WD) := Lib.hid (Fr.refl _ _)
      clear HST q0 q1 q2 q3 q4 q5 q6 qf' qlt HLT HBX
      -- e
      obtain ⟨q0, q1, q2, q3, q4, q5, q6, _⟩ := cells7 HQB.out
      have hlt := lt_of_block HQB.out
      have n1 : ¬ w.heap.size = WD.heap.size := by omega
      have n2 : ¬ WD.heap.size = w.heap.size := by omega
      have n3 : ¬ w.heap.size = WD.heap.size + 1 := by omega
      have n4 : ¬ WD.heap.size + 1 = w.heap.size := by omega
      have n5 : w.heap.size < WD.heap.size + 1 := by omega
      go_wp2_with (at_builtin; refine go_stop ?_)
      unfold Stop
      have HNB : Hid (((WD.alloc (.cells #[.int .i64 1, .string q.f, .string q.t, .int .i64 q.rev, .slice s2 q.cmps.length c2, .slice s3 q.thn.length c3, .slice s4 q.els.length c4] 28)).alloc (.cells #[] 61)).heap[WD.heap.size]? = some (.cells #[.int .i64 1, .string q.f, .string q.t, .int .i64 q.rev, .slice s2 q.cmps.length c2, .slice s3 q.thn.length c3, .slice s4 q.els.length c4] 28 (0, 0))) := Lib.hid (blk_alloc (new_block _ _) _)
      have HST : Hid (Fr [] WD ((WD.alloc (.cells #[.int .i64 1, .string q.f, .string q.t, .int .i64 q.rev, .slice s2 q.cmps.length c2, .slice s3 q.thn.length c3, .slice s4 q.els.length c4] 28)).alloc (.cells #[] 61))) := Lib.hid (((Fr.refl [] WD).alloc _).alloc _)
      have HEM : Hid (Lies ((WD.alloc (.cells #[.int .i64 1, .string q.f, .string q.t, .int .i64 q.rev, .slice s2 q.cmps.length c2, .slice s3 q.thn.length c3, .slice s4 q.els.length c4] 28)).alloc (.cells #[] 61)) 61 4 (.slice (some ⟨WD.heap.size + 1, 0, none⟩) 0 0) 0 []) := Lib.hid (lies_empty (WD.alloc (.cells #[.int .i64 1, .string q.f, .string q.t, .int .i64 q.rev, .slice s2 q.cmps.length c2, .slice s3 q.thn.length c3, .slice s4 q.els.length c4] 28)) 61 4 (WD.heap.size + 1) (by simp))
      have HSZ : Hid (((WD.alloc (.cells #[.int .i64 1, .string q.f, .string q.t, .int .i64 q.rev, .slice s2 q.cmps.length c2, .slice s3 q.thn.length c3, .slice s4 q.els.length c4] 28)).alloc (.cells #[] 61)).heap.size = WD.heap.size + 1 + 1) := Lib.hid (by simp)
      obtain ⟨be, hbe⟩ : ∃ be, be = WD.heap.size := ⟨_, rfl⟩
      have HBX : Hid (be = WD.heap.size) := Lib.hid hbe
      rw [← hbe] at HNB HEM HSZ hlt ⊢
      have HLT := Lib.hid hlt
      clear hbe q0 q1 q2 q3 q4 q5 q6 n1 n2 n3 n4 n5 hlt
      generalize ((WD.alloc (.cells #[.int .i64 1, .string q.f, .string q.t, .int .i64 q.rev, .slice s2 q.cmps.length c2, .slice s3 q.thn.length c3, .slice s4 q.els.length c4] 28)).alloc (.cells #[] 61)) = W1 at *
      refine wpList_append_src rfl (.tmp 56) (.tmp 58) 25 61 (.agg #[.int .i64 0, .string ⟨#[]⟩, .string ⟨#[]⟩, .int .i64 0]) 4 48 rfl cm_slice cm_info rfl (by decide) (.slice (some ⟨be + 1, 0, none⟩) 0 0) 0 [] rfl HEM.out (.slice s2 q.cmps.length c2) q.cmps.length (allC Cm.cells q.cmps) rfl (LIn.src (LIn.keep0 HQ.out.c (HFW.out.trans HST.out (by simp))) Cm.clen (by decide)) (allC_ones Cm.cone q.cmps) (by unfold maxLen; omega) (by omega) ?ap1
      case ap1 =>
      intro v1 W2 h1 h2 h3
      obtain ⟨t1, d1, rfl, _, _⟩ := h1.form
      have HV1 : Hid (∀ k, (Value.slice t1 (0 + q.cmps.length) d1).ownBlock = some k → be < k) := Lib.hid (fun k hk => by
        rcases h3 k hk with h4 | h4
        · simp [Value.ownBlock] at h4; omega
        · have := HSZ.out; omega)
      have HL1 : Hid (Lies W2 61 4 (.slice t1 (0 + q.cmps.length) d1) (0 + q.cmps.length) (allC Cm.cells q.cmps)) := Lib.hid (by simpa using h1)
      replace HST := Lib.hid (HST.out.trans h2 (fun k hk => Or.inr (by have := HBX.out; simp [Value.ownBlock] at hk; omega)))
      replace HNB := Lib.hid (h2.keep HNB.out (by simp [Value.ownBlock]))
      have HS2 := Lib.hid h2.size
      clear h1 h2 h3 HEM
      rw [Nat.zero_add] at HV1 HL1 ⊢
      go_wp2_with (at_builtin; refine go_stop ?_)
      unfold Stop
      refine wpList_append_any rfl (.tmp 59) (.tmp 61) 25 61 (.agg #[.int .i64 0, .string ⟨#[]⟩, .string ⟨#[]⟩, .int .i64 0]) 4 48 rfl cm_slice cm_info rfl (by decide) (.slice t1 q.cmps.length d1) q.cmps.length (allC Cm.cells q.cmps) rfl (HL1.out.alloc (.cells (allC Cm.cells [c3a]).toArray 61)) _ 1 (allC Cm.cells [c3a]) rfl (lies_lit W2 61 1 4 (allC Cm.cells [c3a]) rfl (by decide)) (allC_ones Cm.cone [c3a]) (by unfold maxLen; omega) (by omega) ?ap2
      case ap2 =>
      intro v2 W3 h1 h2 h3
      obtain ⟨tte, dde, rfl, _, _⟩ := h1.form
      have hal : Fr [] W2 (W2.alloc (.cells (allC Cm.cells [c3a]).toArray 61)) := (Fr.refl [] W2).alloc _
      have HV2 : Hid (∀ k, (Value.slice tte (q.cmps.length + 1) dde).ownBlock = some k → be < k) := Lib.hid (fun k hk => by
        rcases h3 k hk with h4 | h4
        · exact HV1.out k h4
        · have := HSZ.out; have := HS2.out; simp at h4; omega)
      have HL2 : Hid (Lies W3 61 4 (.slice tte (q.cmps.length + 1) dde) (q.cmps.length + 1) (allC Cm.cells (q.cmps ++ [c3a]))) := Lib.hid (by rw [allC_app]; exact h1)
      have hout : ∀ k ∈ (Value.slice t1 q.cmps.length d1).ownBlock.toList, be < k := fun k hk => HV1.out k (Option.mem_toList.1 hk)
      replace HST := Lib.hid ((HST.out.trans hal (by simp)).trans h2 (fun k hk => Or.inr (by have := HBX.out; have := hout k hk; omega)))
      replace HNB := Lib.hid (h2.keep (hal.keep HNB.out (by simp)) (fun hm => by have := hout _ hm; omega))
      clear h1 h2 h3 HV1 HL1 hout hal HS2 HSZ
      obtain ⟨q0, q1, q2, q3, q4, q5, q6, qf⟩ := cells7 HNB.out
      have qf' := qf 4
      have qlt := lt_of_block HNB.out
      have hfs : Fr [be] W3 (W3.setCell ⟨be, 4, none⟩ (.slice tte (q.cmps.length + 1) dde)) := (Fr.refl [be] W3).setCell (p := ⟨be, 4, none⟩) (Or.inl (by simp)) _
      have HBe : Hid ((W3.setCell ⟨be, 4, none⟩ (.slice tte (q.cmps.length + 1) dde)).heap[be]? = some (.cells #[.int .i64 1, .string q.f, .string q.t, .int .i64 q.rev, .slice tte (q.cmps.length + 1) dde, .slice s3 q.thn.length c3, .slice s4 q.els.length c4] 28 (0, 0))) := Lib.hid (by simpa using set_block HNB.out 4 (.slice tte (q.cmps.length + 1) dde))
      have HIe : Hid (CmIn (W3.setCell ⟨be, 4, none⟩ (.slice tte (q.cmps.length + 1) dde)) (.slice tte (q.cmps.length + 1) dde) (q.cmps ++ [c3a])) := Lib.hid (by
        have hl : LAt Cm.cells 61 4 W3 (.slice tte (q.cmps.length + 1) dde) (q.cmps ++ [c3a]) := by unfold LAt; rw [List.length_append]; exact HL2.out
        exact LAt.read (hl.keep hfs (fun j hj hm => by have := HV2.out j hj; simp at hm; omega)) Cm.clen)
      replace HST := Lib.hid (HST.out.trans hfs (fun j hj => Or.inr (by have := HBX.out; simp at hj; omega)))
      clear hfs HL2 HV2 HNB qf
      go_upto_region 14 with fail
      generalize W3.setCell ⟨be, 4, none⟩ (.slice tte (q.cmps.length + 1) dde) = WE at *
      replace HFW := Lib.hid (HFW.out.trans HST.out (by simp))
      replace HQB := Lib.hid (HST.out.keep HQB.out (by simp))
      replace HRa := Lib.hid (HRa.out.trans HST.out (by simp))
      replace HRb := Lib.hid (HRb.out.trans HST.out (by simp))
      replace HRc := Lib.hid (HRc.out.trans HST.out (by simp))
      replace HRd := Lib.hid (HRd.out.trans HST.out (by simp))
      have HRe : Hid (Fr [] WE WE) := Lib.hid (Fr.refl _ _)
      clear HST q0 q1 q2 q3 q4 q5 q6 qf' qlt HLT HBX
      -- f
      obtain ⟨q0, q1, q2, q3, q4, q5, q6, _⟩ := cells7 HQB.out
      have hlt := lt_of_block HQB.out
      have n1 : ¬ w.heap.size = WE.heap.size := by omega
      have n2 : ¬ WE.heap.size = w.heap.size := by omega
      go_wp2_with (at_make; refine go_stop ?_)
      unfold Stop
      have HNB : Hid ((WE.alloc (.cells #[.int .i64 1, .string q.f, .string q.t, .int .i64 q.rev, .slice s2 q.cmps.length c2, .slice s3 q.thn.length c3, .slice s4 q.els.length c4] 28)).heap[WE.heap.size]? = some (.cells #[.int .i64 1, .string q.f, .string q.t, .int .i64 q.rev, .slice s2 q.cmps.length c2, .slice s3 q.thn.length c3, .slice s4 q.els.length c4] 28 (0, 0))) := Lib.hid (new_block _ _)
      have HST : Hid (Fr [] WE (WE.alloc (.cells #[.int .i64 1, .string q.f, .string q.t, .int .i64 q.rev, .slice s2 q.cmps.length c2, .slice s3 q.thn.length c3, .slice s4 q.els.length c4] 28))) := Lib.hid ((Fr.refl [] WE).alloc _)
      have HSZ : Hid ((WE.alloc (.cells #[.int .i64 1, .string q.f, .string q.t, .int .i64 q.rev, .slice s2 q.cmps.length c2, .slice s3 q.thn.length c3, .slice s4 q.els.length c4] 28)).heap.size = WE.heap.size + 1) := Lib.hid (by simp)
      obtain ⟨bf, hbf⟩ : ∃ bf, bf = WE.heap.size := ⟨_, rfl⟩
      have HBX : Hid (bf = WE.heap.size) := Lib.hid hbf
      rw [← hbf] at HNB HSZ hlt ⊢
      clear hbf q0 q1 q2 q3 q4 q5 q6 n1 n2 hlt
      generalize (WE.alloc (.cells #[.int .i64 1, .string q.f, .string q.t, .int .i64 q.rev, .slice s2 q.cmps.length c2, .slice s3 q.thn.length c3, .slice s4 q.els.length c4] 28)) = W1 at *
      refine wpList_make_any rfl _ _ 25 61 (.agg #[.int .i64 0, .string ⟨#[]⟩, .string ⟨#[]⟩, .int .i64 0]) 4 48 rfl cm_slice cm_info rfl (by decide) 5 rfl rfl (by decide) (by decide) ?mk
      case mk =>
      intro W2 h1 h2
      have hl5 : LAt Cm.cells 61 4 W2 (.slice (some ⟨W1.heap.size, 0, none⟩) 5 5) (List.replicate 5 c00) := Lies.of_own h1
      have hsz5 : W1.heap.size = bf + 1 := HSZ.out
      rw [hsz5] at hl5 ⊢
      replace HST := Lib.hid (HST.out.trans h2 (by simp))
      replace HNB := Lib.hid (h2.keep HNB.out (by simp))
      clear h1 h2
      obtain ⟨q0, q1, q2, q3, q4, q5, q6, qf⟩ := cells7 HNB.out
      have qf' := qf 4
      have qlt := lt_of_block HNB.out
      have hfs : Fr [bf] W2 (W2.setCell ⟨bf, 4, none⟩ (.slice (some ⟨bf + 1, 0, none⟩) 5 5)) := (Fr.refl [bf] W2).setCell (p := ⟨bf, 4, none⟩) (Or.inl (by simp)) _
      have HBf : Hid ((W2.setCell ⟨bf, 4, none⟩ (.slice (some ⟨bf + 1, 0, none⟩) 5 5)).heap[bf]? = some (.cells #[.int .i64 1, .string q.f, .string q.t, .int .i64 q.rev, .slice (some ⟨bf + 1, 0, none⟩) 5 5, .slice s3 q.thn.length c3, .slice s4 q.els.length c4] 28 (0, 0))) := Lib.hid (by simpa using set_block HNB.out 4 (.slice (some ⟨bf + 1, 0, none⟩) 5 5))
      have HIf : Hid (CmIn (W2.setCell ⟨bf, 4, none⟩ (.slice (some ⟨bf + 1, 0, none⟩) 5 5)) (.slice (some ⟨bf + 1, 0, none⟩) 5 5) (List.replicate 5 c00)) := Lib.hid (LAt.read (hl5.keep hfs (fun j hj hm => by simp [Value.ownBlock] at hj hm; omega)) Cm.clen)
      replace HST := Lib.hid (HST.out.trans hfs (fun j hj => Or.inr (by have := HBX.out; simp at hj; omega)))
      clear hfs hl5 HNB qf
      go_upto_region 16 with fail
      generalize W2.setCell ⟨bf, 4, none⟩ (.slice (some ⟨bf + 1, 0, none⟩) 5 5) = WF at *
      replace HFW := Lib.hid (HFW.out.trans HST.out (by simp))
      replace HRa := Lib.hid (HRa.out.trans HST.out (by simp))
      replace HRb := Lib.hid (HRb.out.trans HST.out (by simp))
      replace HRc := Lib.hid (HRc.out.trans HST.out (by simp))
      replace HRd := Lib.hid (HRd.out.trans HST.out (by simp))
      replace HRe := Lib.hid (HRe.out.trans HST.out (by simp))
      have HRf : Hid (Fr [] WF WF) := Lib.hid (Fr.refl _ _)
      clear HST HQB q0 q1 q2 q3 q4 q5 q6 qf' qlt HBX HSZ hsz5
      have HQa : Hid (RqIn WF { q with kind := 4 + (aa : Int) } _ _ _) := Lib.hid ⟨(LIn.keep0 HQ.out.c HFW.out), (LIn.keep0 HQ.out.t HFW.out), (LIn.keep0 HQ.out.e HFW.out), HQ.out.wf⟩
      have HMa : Hid (mayE { q with kind := 4 + (aa : Int) } = 1) := Lib.hid (may_kind q (by omega))
      replace HBa := Lib.hid (HRa.out.keep HBa.out (by simp))
      have HQb : Hid (RqIn WF { q with kind := 1, thn := q.thn ++ [l9] } _ _ _) := Lib.hid ⟨(LIn.keep0 HQ.out.c HFW.out), (LIn.keep0 HIb.out HRb.out), (LIn.keep0 HQ.out.e HFW.out), HQ.out.wf⟩
      have HMb : Hid (mayE { q with kind := 1, thn := q.thn ++ [l9] } = 1) := Lib.hid (may_thn { q with kind := 1 } rfl opB_l9)
      replace HBb := Lib.hid (HRb.out.keep HBb.out (by simp))
      have HQc : Hid (RqIn WF { q with kind := 1, thn := q.thn ++ [lv9] } _ _ _) := Lib.hid ⟨(LIn.keep0 HQ.out.c HFW.out), (LIn.keep0 HIc.out HRc.out), (LIn.keep0 HQ.out.e HFW.out), HQ.out.wf⟩
      have HMc : Hid (mayE { q with kind := 1, thn := q.thn ++ [lv9] } = 1) := Lib.hid (may_thn { q with kind := 1 } rfl opB_lv9)
      replace HBc := Lib.hid (HRc.out.keep HBc.out (by simp))
      have HQd : Hid (RqIn WF { q with kind := 1, els := q.els ++ [la0, la1] } _ _ _) := Lib.hid ⟨(LIn.keep0 HQ.out.c HFW.out), (LIn.keep0 HQ.out.t HFW.out), (LIn.keep0 HId.out HRd.out), HQ.out.wf⟩
      have HMd : Hid (mayE { q with kind := 1, els := q.els ++ [la0, la1] } = 1) := Lib.hid (may_els { q with kind := 1 } rfl)
      replace HBd := Lib.hid (HRd.out.keep HBd.out (by simp))
      have HQe : Hid (RqIn WF { q with kind := 1, cmps := q.cmps ++ [c3a] } _ _ _) := Lib.hid ⟨(LIn.keep0 HIe.out HRe.out), (LIn.keep0 HQ.out.t HFW.out), (LIn.keep0 HQ.out.e HFW.out), HQ.out.wf⟩
      have HMe : Hid (mayE { q with kind := 1, cmps := q.cmps ++ [c3a] } = 1) := Lib.hid (may_cmps { q with kind := 1 } rfl)
      replace HBe := Lib.hid (HRe.out.keep HBe.out (by simp))
      have HQf : Hid (RqIn WF { q with kind := 1, cmps := List.replicate 5 c00 } _ _ _) := Lib.hid ⟨(LIn.keep0 HIf.out HRf.out), (LIn.keep0 HQ.out.t HFW.out), (LIn.keep0 HQ.out.e HFW.out), HQ.out.wf⟩
      have HMf : Hid (mayE { q with kind := 1, cmps := List.replicate 5 c00 } = 1) := Lib.hid (may_five { q with kind := 1 } rfl)
      replace HBf := Lib.hid (HRf.out.keep HBf.out (by simp))
      clear HRa HRb HRc HRd HRe HRf HIb HIc HId HIe HIf
      obtain ⟨q0, q1, q2, q3, q4, q5, q6, _⟩ := cells7 HBa.out
      go_wp2_with (go_at_call 15; refine go_stop ?_)
      unfold Stop
      refine (HRN.out _ { q with kind := 4 + (aa : Int) } _ _ _ HQa.out HMa.out).mono ?_
      rintro e W' ⟨rfl, h1⟩
      replace HFW := Lib.hid (HFW.out.trans h1 (by simp))
      replace HBb := Lib.hid (h1.keep HBb.out (by simp))
      replace HQb := Lib.hid (HQb.out.keep0 h1)
      replace HBc := Lib.hid (h1.keep HBc.out (by simp))
      replace HQc := Lib.hid (HQc.out.keep0 h1)
      replace HBd := Lib.hid (h1.keep HBd.out (by simp))
      replace HQd := Lib.hid (HQd.out.keep0 h1)
      replace HBe := Lib.hid (h1.keep HBe.out (by simp))
      replace HQe := Lib.hid (HQe.out.keep0 h1)
      replace HBf := Lib.hid (h1.keep HBf.out (by simp))
      replace HQf := Lib.hid (HQf.out.keep0 h1)
      clear q0 q1 q2 q3 q4 q5 q6 h1
      obtain ⟨q0, q1, q2, q3, q4, q5, q6, _⟩ := cells7 HBb.out
      go_wp2_with (go_at_call 15; refine go_stop ?_)
      unfold Stop
      refine (HRN.out _ { q with kind := 1, thn := q.thn ++ [l9] } _ _ _ HQb.out HMb.out).mono ?_
      rintro e W' ⟨rfl, h1⟩
      replace HFW := Lib.hid (HFW.out.trans h1 (by simp))
      replace HBc := Lib.hid (h1.keep HBc.out (by simp))
      replace HQc := Lib.hid (HQc.out.keep0 h1)
      replace HBd := Lib.hid (h1.keep HBd.out (by simp))
      replace HQd := Lib.hid (HQd.out.keep0 h1)
      replace HBe := Lib.hid (h1.keep HBe.out (by simp))
      replace HQe := Lib.hid (HQe.out.keep0 h1)
      replace HBf := Lib.hid (h1.keep HBf.out (by simp))
      replace HQf := Lib.hid (HQf.out.keep0 h1)
      clear q0 q1 q2 q3 q4 q5 q6 h1
      obtain ⟨q0, q1, q2, q3, q4, q5, q6, _⟩ := cells7 HBc.out
      go_wp2_with (go_at_call 15; refine go_stop ?_)
      unfold Stop
      refine (HRN.out _ { q with kind := 1, thn := q.thn ++ [lv9] } _ _ _ HQc.out HMc.out).mono ?_
      rintro e W' ⟨rfl, h1⟩
      replace HFW := Lib.hid (HFW.out.trans h1 (by simp))
      replace HBd := Lib.hid (h1.keep HBd.out (by simp))
      replace HQd := Lib.hid (HQd.out.keep0 h1)
      replace HBe := Lib.hid (h1.keep HBe.out (by simp))
      replace HQe := Lib.hid (HQe.out.keep0 h1)
      replace HBf := Lib.hid (h1.keep HBf.out (by simp))
      replace HQf := Lib.hid (HQf.out.keep0 h1)
      clear q0 q1 q2 q3 q4 q5 q6 h1
      obtain ⟨q0, q1, q2, q3, q4, q5, q6, _⟩ := cells7 HBd.out
      go_wp2_with (go_at_call 15; refine go_stop ?_)
      unfold Stop
      refine (HRN.out _ { q with kind := 1, els := q.els ++ [la0, la1] } _ _ _ HQd.out HMd.out).mono ?_
      rintro e W' ⟨rfl, h1⟩
      replace HFW := Lib.hid (HFW.out.trans h1 (by simp))
      replace HBe := Lib.hid (h1.keep HBe.out (by simp))
      replace HQe := Lib.hid (HQe.out.keep0 h1)
      replace HBf := Lib.hid (h1.keep HBf.out (by simp))
      replace HQf := Lib.hid (HQf.out.keep0 h1)
      clear q0 q1 q2 q3 q4 q5 q6 h1
      obtain ⟨q0, q1, q2, q3, q4, q5, q6, _⟩ := cells7 HBe.out
      go_wp2_with (go_at_call 15; refine go_stop ?_)
      unfold Stop
      refine (HRN.out _ { q with kind := 1, cmps := q.cmps ++ [c3a] } _ _ _ HQe.out HMe.out).mono ?_
      rintro e W' ⟨rfl, h1⟩
      replace HFW := Lib.hid (HFW.out.trans h1 (by simp))
      replace HBf := Lib.hid (h1.keep HBf.out (by simp))
      replace HQf := Lib.hid (HQf.out.keep0 h1)
      clear q0 q1 q2 q3 q4 q5 q6 h1
      obtain ⟨q0, q1, q2, q3, q4, q5, q6, _⟩ := cells7 HBf.out
      go_wp2_with (go_at_call 15; refine go_stop ?_)
      unfold Stop
      refine (HRN.out _ { q with kind := 1, cmps := List.replicate 5 c00 } _ _ _ HQf.out HMf.out).mono ?_
      rintro e W' ⟨rfl, h1⟩
      replace HFW := Lib.hid (HFW.out.trans h1 (by simp))
      clear q0 q1 q2 q3 q4 q5 q6 h1
      go_wp2
      go_ret
      exact ⟨rfl, HFW.out.below (Nat.le_refl _) (by simp)⟩
    · have t3 : (q.kind == 1) = false := by simpa using hk1
      go_wp2
      go_ret
      exact ⟨rfl, HFW.out.below (Nat.le_refl _) (by simp)⟩
  · have t3 : (E == 0) = false := by simpa using hE0
    go_wp2
    go_ret
    exact ⟨rfl, HFW.out.below (Nat.le_refl _) (by simp)⟩

set_option maxRecDepth 100000 in
theorem contract (H : Type) (enc : TypeId × Value → H) (W : World) (base : Nat) (args : Array Value) (ds gs : List (DataW H)) (before : List MemPlace)
    (hval0 : ∀ (j : Nat) t v, Try.f7.params[j]? = some t → args[j]? = some v → Value.okWide Try.prog W .any base t v)
    (hW : DataW.Whole enc Try.prog Try.f7.params.toList Rows.txnRefusedSpec.vars false W args.toList ds gs before) :
    Calls Try.prog 7 args W fun e W' => ∃ v, e = .returned v ∧ Rows.txnRefusedSpec.post enc Try.prog Try.f7 false true false false W args v W' := by
  have hval : ∀ (j : Nat) t v, Try.f7.params[j]? = some t → args[j]? = some v → Value.okWide Try.prog W .any base t v := hval0
  have hW' := hW
  obtain ⟨p, q, hA0, hV, rfl, hfz, hnd⟩ := hW
  have hA : DataW.TrodAll enc Try.prog W 0 (fun _ => true) true Try.f7.params.toList args.toList ds p := hA0
  rw [Try.params7] at hA hval
  obtain ⟨v0, vs0, d0, ds0, p0, q0, hargs, rfl, rfl, h0, r0⟩ := trodAll_cons hA
  obtain ⟨v1, vs1, d1, ds1, p1, q1, rfl, rfl, rfl, h1, r1⟩ := trodAll_cons r0
  obtain ⟨rfl, rfl, rfl⟩ := trodAll_nil r1
  obtain rfl : args = #[v0, v1] := by cases args; simp_all
  obtain ⟨rfl, rfl⟩ := trodVars_none hV
  have k0 := h0
  have lt0 : ∀ x ∈ p0, x.block < W.heap.size := by obtain ⟨m, hm⟩ := k0; exact DataW.trod_lt m _ _ _ hm
  have k1 := h1
  have lt1 : ∀ x ∈ p1, x.block < W.heap.size := by obtain ⟨m, hm⟩ := k1; exact DataW.trod_lt m _ _ _ hm
  obtain ⟨q, cv, tv, ev, rfl, hq⟩ := open_req (hval 0 28 v0 rfl rfl) h0
  obtain ⟨at_, rfl, _, _, wat_⟩ := open_int Try.underlying5 (hval 1 5 v1 rfl rfl) h1
  clear hA0 hval0 hval
  refine (walk q at_ cv tv ev W hq wat_).mono fun e W' ⟨he, bel⟩ => ?_
  subst he
  exact ⟨_, rfl, _, _, _, [], _, [], hW', trodAll_mk1 (shut_bool Try.underlying4 _), (trodAll_cons_mk (Below.trod laid_prog (by kernel_rfl) (of_decide_eq_true (by kernel_rfl)) k0 bel lt0) (trodAll_cons_mk (Below.trod laid_prog (by kernel_rfl) (of_decide_eq_true (by kernel_rfl)) k1 bel lt1) trodAll_mk0)), rfl, bel.frame _, fun h => by cases h⟩

set_option maxRecDepth 100000 in
theorem lifted (os : Os) (started : os.Started) (H : Type) (enc : TypeId × Value → H) :
    ReturnsInHanded {} Try.checked os 7 .any (Rows.txnRefusedSpec.pre6 enc Try.prog Try.f7 Rows.txnRefusedRow.domain false) (Rows.txnRefusedSpec.post enc Try.prog Try.f7 false true false false) := by
  refine returnsInHanded_of_change (C := Try.checked) own_prog started (by kernel_rfl) Try.func7
    (ChangeSpec.witness6 (enc := enc) (C := Try.checked) false ⟨#[], #[.agg #[.int .i64 0, .string ⟨#[]⟩, .string ⟨#[]⟩, .int .i64 0, .slice none 0 0, .slice none 0 0, .slice none 0 0], .int .u8 0], []⟩ 8 (by kernel_rfl) (by kernel_rfl) (by kernel_rfl) (by kernel_rfl)) ?_
  intro W base args ds gs before hval hW _ _
  exact contract H enc W base args ds gs before hval hW

theorem proved : Rows.TxnRefusedSaid :=
  OpenClaim.holds_of_wide 7 Try.f7 rfl rfl rfl rfl rfl rfl rfl ⟨rfl, rfl, rfl, rfl, rfl⟩ rfl rfl rfl rfl rfl (by kernel_rfl) Try.func7 (by kernel_rfl)
    (of_decide_eq_true (by kernel_rfl)) (by unfold Func.isWrapper; first | (rw [if_pos (by decide +kernel)]; kernel_rfl) | (rw [if_neg (by decide +kernel)]; exact ⟨rfl, rfl⟩))
    (fun os started H enc _ => lifted os started H enc)

end Go.Proofs.Ytjclbgeclopheaa.lawTxnRefused
