/- PACKAGE subidx: lift: contracts, a side each -/
import Derived.Test.YtcieokfjkfpajaaSiMea
import Derived.Deep.RegionHeldLaw
namespace Go.Proofs.Ytcieokfjkfpajaa
open Go.RowKit
set_option linter.unusedVariables false
set_option linter.unusedSimpArgs false

theorem nd_node {b : Nat} {s : Sb} {l r : Tr} (h : (Tr.node b s l r).blks.Nodup) : l.blks.Nodup ∧ r.blks.Nodup ∧ b ∉ l.blks ∧ b ∉ r.blks ∧ ∀ k ∈ l.blks, k ∉ r.blks := by
  rw [Tr.blks_node] at h
  obtain ⟨d1, d2, d3⟩ := List.nodup_append.1 h
  obtain ⟨d4, d5⟩ := List.nodup_cons.1 d2
  exact ⟨d1, d5, fun hb => d3 b hb b List.mem_cons_self rfl, d4, fun k hk hk2 => d3 k hk k (List.mem_cons_of_mem _ hk2) rfl⟩
theorem nd_make {b : Nat} {s : Sb} {l r : Tr} (h1 : l.blks.Nodup) (h2 : r.blks.Nodup) (h3 : b ∉ l.blks) (h4 : b ∉ r.blks) (h5 : ∀ k ∈ l.blks, k ∉ r.blks) : (Tr.node b s l r).blks.Nodup := by
  rw [Tr.blks_node]
  refine List.nodup_append.2 ⟨h1, List.nodup_cons.2 ⟨h4, h2⟩, fun a ha c hc => ?_⟩
  rcases List.mem_cons.1 hc with rfl | hc
  · rintro rfl; exact h3 ha
  · rintro rfl; exact h5 a ha hc
theorem nod_other {w : World} {b q : Nat} {s : Sb} {pl pr : Option Addr} {h : Int} {hu : Rg} (hb : NodB w b s pl pr h hu) (hn : b ≠ q) (i : Nat) (u : Value) : NodB (w.setCell ⟨q, i, none⟩ u) b s pl pr h hu := set_other hb hn i u
/-- a node whose height and hull may be old -/
def Hole (w : World) (b : Nat) (s : Sb) (pl pr : Option Addr) : Prop := ∃ h hu, NodB w b s pl pr h hu
theorem Hole.keep {S : List Nat} {w w' : World} {b : Nat} {s : Sb} {pl pr : Option Addr} (hb : Hole w b s pl pr) (hf : Fr S w w') (hn : b ∉ S) : Hole w' b s pl pr := by
  obtain ⟨h, hu, hb⟩ := hb; exact ⟨h, hu, hb.keep hf hn⟩
theorem TrAt.hole {w : World} {b : Nat} {s : Sb} {l r : Tr} (h : TrAt w (.node b s l r)) : Hole w b s l.ptr r.ptr := ⟨_, _, h.1⟩

set_option maxHeartbeats 2000000 in
theorem si_lift0 (b : Nat) (s : Sb) (q : Nat) (qs : Sb) (ql qr o : Tr) (w : World) (hb : Hole w b s (some ⟨q, 0, none⟩) o.ptr) (hq : Hole w q qs ql.ptr qr.ptr) (hql : TrAt w ql) (hqr : TrAt w qr) (ho : TrAt w o) (nd : (Tr.node b s (.node q qs ql qr) o).blks.Nodup) (hs : (Tr.node b s (.node q qs ql qr) o).lst.length < 1000000) :
    Calls Try.prog 49 #[.pointer (some ⟨b, 0, none⟩), .int .i64 0] w fun e w' => e = .returned (.pointer (some ⟨q, 0, none⟩)) ∧ TrAt w' (Tr.node q qs ql (.node b s qr o)) ∧ Fr [b, q] w w' := by
  obtain ⟨bh, bu, hb⟩ := hb
  obtain ⟨qh, qu, hq⟩ := hq
  obtain ⟨n1, n2, n3, n4, n5⟩ := nd_node nd
  obtain ⟨m1, m2, m3, m4, m5⟩ := nd_node n1
  rw [Tr.blks_node] at n3 n5
  have nbq : ¬ b = q := by rintro rfl; exact n3 (by simp)
  have nbql : b ∉ ql.blks := fun h => n3 (by simp [h])
  have nbqr : b ∉ qr.blks := fun h => n3 (by simp [h])
  have nqo : q ∉ o.blks := n5 q (by simp)
  have ncol : ∀ k ∈ ql.blks, k ∉ o.blks := fun k h => n5 k (by simp [h])
  have ncor : ∀ k ∈ qr.blks, k ∉ o.blks := fun k h => n5 k (by simp [h])
  have nbo := n4
  have nqb : ¬ q = b := fun e => nbq e.symm
  simp only [Tr.lst, List.length_append, List.length_cons] at hs
  have HM1 := Lib.hid fun (W : World) (h1 : Hole W b s qr.ptr o.ptr) (h2 : TrAt W qr) (h3 : TrAt W o) => si_measure b s qr o W h1 h2 h3 nbqr nbo (by omega)
  have HM2 := Lib.hid fun (W : World) (h1 : Hole W q qs ql.ptr (some ⟨b, 0, none⟩)) (h2 : TrAt W ql) (h3 : TrAt W (.node b s qr o)) => si_measure q qs ql (.node b s qr o) W h1 h2 h3 m3 (by rw [Tr.blks_node]; simp only [List.mem_append, List.mem_cons, not_or]; exact ⟨m4, nqb, nqo⟩) (by simp only [Tr.lst, List.length_append, List.length_cons]; omega)
  have HQL : Hid (∀ W, Fr [b, q] w W → TrAt W ql) := Lib.hid fun W h => hql.keep h (by intro k hk; simp only [List.mem_cons, List.not_mem_nil, or_false, not_or]; exact ⟨by rintro rfl; exact nbql hk, by rintro rfl; exact m3 hk⟩)
  have HQR : Hid (∀ W, Fr [b, q] w W → TrAt W qr) := Lib.hid fun W h => hqr.keep h (by intro k hk; simp only [List.mem_cons, List.not_mem_nil, or_false, not_or]; exact ⟨by rintro rfl; exact nbqr hk, by rintro rfl; exact m4 hk⟩)
  have HO : Hid (∀ W, Fr [b, q] w W → TrAt W o) := Lib.hid fun W h => ho.keep h (by intro k hk; simp only [List.mem_cons, List.not_mem_nil, or_false, not_or]; exact ⟨by rintro rfl; exact nbo hk, by rintro rfl; exact nqo hk⟩)
  obtain ⟨_, _, _, _, x4, x5, _, _, _, xf⟩ := nod_cells hb
  obtain ⟨_, _, _, _, y4, y5, _, _, _, yf⟩ := nod_cells hq
  have xf4 := xf 4
  have hqlt := hq.lt
  have hblt := hb.lt
  have HB := Lib.hid hb
  have HQ := Lib.hid hq
  clear xf yf hb hq hql hqr ho nd hs n1 n2 n3 n4 n5 m1 m2 m3 m4 m5 nbql nbqr nqo ncol ncor nbo
  generalize hmv : qr.ptr = mvp at *
  generalize hop : o.ptr = op at *
  generalize hko : ql.ptr = kop at *
  have HMV := Lib.hid hmv
  have HOP := Lib.hid hop
  have HKO := Lib.hid hko
  clear hmv hop hko
  go_enter Try.func49, Try.ntmps49
  go_upto_region 2 with fail
  go_cut [12] (fun v wc => Hole wc b s mvp op ∧ NodB wc q qs kop mvp qh qu ∧ Fr [b, q] w wc)
  case first =>
    go_region_held_law (fun w' => w'.cell? ⟨q, 5, none⟩ = some (.pointer mvp)) (go_keep) (fail)
    all_goals
      go_wp2_with fail
      go_meet
      exact ⟨⟨_, _, nod_set4 HB.out _⟩, nod_other HQ.out nqb _ _, (fr_set1 (Fr.refl [b, q] w) (by simp) _ _).drew⟩
  case rest =>
    obtain ⟨hb1, hq1, hf1⟩ := hcut
    have HB1 := Lib.hid hb1
    have HQ1 := Lib.hid hq1
    have HF1 := Lib.hid hf1
    clear x4 x5 y4 y5 xf4
    obtain ⟨_, _, _, _, y4, y5, _, _, _, yf⟩ := nod_cells hq1
    have yf5 := yf 5
    have hqlt2 := hq1.lt
    clear yf hb1 hq1 hf1
    go_wp2_with (go_at_call 50; refine go_stop ?_)
    have hf2 : Fr [b, q] w (wc.setCell ⟨q, 5, none⟩ (.pointer (some ⟨b, 0, none⟩))) := fr_set1 HF1.out (by simp) _ _
    have hb2 : Hole (wc.setCell ⟨q, 5, none⟩ (.pointer (some ⟨b, 0, none⟩))) b s mvp op := by
      obtain ⟨h, hu, hh⟩ := HB1.out
      exact ⟨h, hu, nod_other hh nbq _ _⟩
    have hq2 := nod_set5 HQ1.out (some ⟨b, 0, none⟩)
    have C1 := Lib.hid (HM1.out _ hb2 (HQR.out _ hf2) (HO.out _ hf2))
    have HF2 := Lib.hid hf2
    have HQ2 := Lib.hid hq2
    clear hf2 hb2 hq2 y4 y5 yf5 hqlt2
    unfold Stop
    generalize wc.setCell ⟨q, 5, none⟩ (.pointer (some ⟨b, 0, none⟩)) = w2 at *
    refine C1.out.mono ?_
    rintro e w3 ⟨rfl, hb3, hf3⟩
    have hq3 := NodB.keep HQ2.out hf3 (by simp; exact nqb)
    have hf4 := HF2.out.trans hf3 (by simp)
    have C2 := Lib.hid (HM2.out w3 ⟨_, _, by first | exact hq3 | (rw [HKO.out]; exact hq3)⟩ (HQL.out _ hf4) ⟨by first | exact hb3 | (rw [HMV.out, HOP.out]; exact hb3), HQR.out _ hf4, HO.out _ hf4⟩)
    have HF4 := Lib.hid hf4
    have HB3 := Lib.hid hb3
    clear hb3 hf3 hq3 hf4
    go_wp2_with (go_at_call 50; refine C2.out.mono ?_; rintro e w5 ⟨rfl, hq5, hf5⟩; have HQ5 := Lib.hid hq5; have HF5 := Lib.hid hf5; clear hq5 hf5)
    go_ret
    have hf6 := HF4.out.trans HF5.out (by simp)
    have hb5 := NodB.keep HB3.out HF5.out (by simp; exact nbq)
    refine ⟨rfl, ?_, hf6⟩
    have tb : TrAt w5 (Tr.node b s qr o) := ⟨by first | exact hb5 | (rw [HMV.out, HOP.out]; exact hb5), HQR.out _ hf6, HO.out _ hf6⟩
    exact ⟨by first | exact HQ5.out | (rw [HKO.out]; exact HQ5.out), HQL.out _ hf6, tb⟩

set_option maxHeartbeats 2000000 in
theorem si_lift1 (b : Nat) (s : Sb) (q : Nat) (qs : Sb) (ql qr o : Tr) (w : World) (hb : Hole w b s o.ptr (some ⟨q, 0, none⟩)) (hq : Hole w q qs ql.ptr qr.ptr) (hql : TrAt w ql) (hqr : TrAt w qr) (ho : TrAt w o) (nd : (Tr.node b s o (.node q qs ql qr)).blks.Nodup) (hs : (Tr.node b s o (.node q qs ql qr)).lst.length < 1000000) :
    Calls Try.prog 49 #[.pointer (some ⟨b, 0, none⟩), .int .i64 1] w fun e w' => e = .returned (.pointer (some ⟨q, 0, none⟩)) ∧ TrAt w' (Tr.node q qs (.node b s o ql) qr) ∧ Fr [b, q] w w' := by
  obtain ⟨bh, bu, hb⟩ := hb
  obtain ⟨qh, qu, hq⟩ := hq
  obtain ⟨n1, n2, n3, n4, n5⟩ := nd_node nd
  obtain ⟨m1, m2, m3, m4, m5⟩ := nd_node n2
  rw [Tr.blks_node] at n4
  have nbq : ¬ b = q := by rintro rfl; exact n4 (by simp)
  have nbql : b ∉ ql.blks := fun h => n4 (by simp [h])
  have nbqr : b ∉ qr.blks := fun h => n4 (by simp [h])
  have nqo : q ∉ o.blks := fun h => n5 q h (by rw [Tr.blks_node]; simp)
  have ncol : ∀ k ∈ ql.blks, k ∉ o.blks := fun k h h2 => n5 k h2 (by rw [Tr.blks_node]; simp [h])
  have ncor : ∀ k ∈ qr.blks, k ∉ o.blks := fun k h h2 => n5 k h2 (by rw [Tr.blks_node]; simp [h])
  have nbo := n3
  have nqb : ¬ q = b := fun e => nbq e.symm
  simp only [Tr.lst, List.length_append, List.length_cons] at hs
  have HM1 := Lib.hid fun (W : World) (h1 : Hole W b s o.ptr ql.ptr) (h2 : TrAt W o) (h3 : TrAt W ql) => si_measure b s o ql W h1 h2 h3 nbo nbql (by omega)
  have HM2 := Lib.hid fun (W : World) (h1 : Hole W q qs (some ⟨b, 0, none⟩) qr.ptr) (h2 : TrAt W (.node b s o ql)) (h3 : TrAt W qr) => si_measure q qs (.node b s o ql) qr W h1 h2 h3 (by rw [Tr.blks_node]; simp only [List.mem_append, List.mem_cons, not_or]; exact ⟨nqo, nqb, m3⟩) m4 (by simp only [Tr.lst, List.length_append, List.length_cons]; omega)
  have HQL : Hid (∀ W, Fr [b, q] w W → TrAt W ql) := Lib.hid fun W h => hql.keep h (by intro k hk; simp only [List.mem_cons, List.not_mem_nil, or_false, not_or]; exact ⟨by rintro rfl; exact nbql hk, by rintro rfl; exact m3 hk⟩)
  have HQR : Hid (∀ W, Fr [b, q] w W → TrAt W qr) := Lib.hid fun W h => hqr.keep h (by intro k hk; simp only [List.mem_cons, List.not_mem_nil, or_false, not_or]; exact ⟨by rintro rfl; exact nbqr hk, by rintro rfl; exact m4 hk⟩)
  have HO : Hid (∀ W, Fr [b, q] w W → TrAt W o) := Lib.hid fun W h => ho.keep h (by intro k hk; simp only [List.mem_cons, List.not_mem_nil, or_false, not_or]; exact ⟨by rintro rfl; exact nbo hk, by rintro rfl; exact nqo hk⟩)
  obtain ⟨_, _, _, _, x4, x5, _, _, _, xf⟩ := nod_cells hb
  obtain ⟨_, _, _, _, y4, y5, _, _, _, yf⟩ := nod_cells hq
  have xf4 := xf 5
  have hqlt := hq.lt
  have hblt := hb.lt
  have HB := Lib.hid hb
  have HQ := Lib.hid hq
  clear xf yf hb hq hql hqr ho nd hs n1 n2 n3 n4 n5 m1 m2 m3 m4 m5 nbql nbqr nqo ncol ncor nbo
  generalize hmv : ql.ptr = mvp at *
  generalize hop : o.ptr = op at *
  generalize hko : qr.ptr = kop at *
  have HMV := Lib.hid hmv
  have HOP := Lib.hid hop
  have HKO := Lib.hid hko
  clear hmv hop hko
  go_enter Try.func49, Try.ntmps49
  go_upto_region 2 with fail
  go_cut [12] (fun v wc => Hole wc b s op mvp ∧ NodB wc q qs mvp kop qh qu ∧ Fr [b, q] w wc)
  case first =>
    go_region_held_law (fun w' => w'.cell? ⟨q, 4, none⟩ = some (.pointer mvp)) (go_keep) (fail)
    all_goals
      go_wp2_with fail
      go_meet
      exact ⟨⟨_, _, nod_set5 HB.out _⟩, nod_other HQ.out nqb _ _, (fr_set1 (Fr.refl [b, q] w) (by simp) _ _).drew⟩
  case rest =>
    obtain ⟨hb1, hq1, hf1⟩ := hcut
    have HB1 := Lib.hid hb1
    have HQ1 := Lib.hid hq1
    have HF1 := Lib.hid hf1
    clear x4 x5 y4 y5 xf4
    obtain ⟨_, _, _, _, y4, y5, _, _, _, yf⟩ := nod_cells hq1
    have yf5 := yf 4
    have hqlt2 := hq1.lt
    clear yf hb1 hq1 hf1
    go_wp2_with (go_at_call 50; refine go_stop ?_)
    have hf2 : Fr [b, q] w (wc.setCell ⟨q, 4, none⟩ (.pointer (some ⟨b, 0, none⟩))) := fr_set1 HF1.out (by simp) _ _
    have hb2 : Hole (wc.setCell ⟨q, 4, none⟩ (.pointer (some ⟨b, 0, none⟩))) b s op mvp := by
      obtain ⟨h, hu, hh⟩ := HB1.out
      exact ⟨h, hu, nod_other hh nbq _ _⟩
    have hq2 := nod_set4 HQ1.out (some ⟨b, 0, none⟩)
    have C1 := Lib.hid (HM1.out _ hb2 (HO.out _ hf2) (HQL.out _ hf2))
    have HF2 := Lib.hid hf2
    have HQ2 := Lib.hid hq2
    clear hf2 hb2 hq2 y4 y5 yf5 hqlt2
    unfold Stop
    generalize wc.setCell ⟨q, 4, none⟩ (.pointer (some ⟨b, 0, none⟩)) = w2 at *
    refine C1.out.mono ?_
    rintro e w3 ⟨rfl, hb3, hf3⟩
    have hq3 := NodB.keep HQ2.out hf3 (by simp; exact nqb)
    have hf4 := HF2.out.trans hf3 (by simp)
    have C2 := Lib.hid (HM2.out w3 ⟨_, _, by first | exact hq3 | (rw [HKO.out]; exact hq3)⟩ ⟨by first | exact hb3 | (rw [HMV.out, HOP.out]; exact hb3), HO.out _ hf4, HQL.out _ hf4⟩ (HQR.out _ hf4))
    have HF4 := Lib.hid hf4
    have HB3 := Lib.hid hb3
    clear hb3 hf3 hq3 hf4
    go_wp2_with (go_at_call 50; refine C2.out.mono ?_; rintro e w5 ⟨rfl, hq5, hf5⟩; have HQ5 := Lib.hid hq5; have HF5 := Lib.hid hf5; clear hq5 hf5)
    go_ret
    have hf6 := HF4.out.trans HF5.out (by simp)
    have hb5 := NodB.keep HB3.out HF5.out (by simp; exact nbq)
    refine ⟨rfl, ?_, hf6⟩
    have tb : TrAt w5 (Tr.node b s o ql) := ⟨by first | exact hb5 | (rw [HMV.out, HOP.out]; exact hb5), HO.out _ hf6, HQL.out _ hf6⟩
    exact ⟨by first | exact HQ5.out | (rw [HKO.out]; exact HQ5.out), tb, HQR.out _ hf6⟩
end Go.Proofs.Ytcieokfjkfpajaa
