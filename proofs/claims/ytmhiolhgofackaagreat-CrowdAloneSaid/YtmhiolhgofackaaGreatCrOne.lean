/- A CROWD ON A TREE OF A LAW'S OWN, one call at a time: contracts -/
import Derived.Test.YtmhiolhgofackaaGreatCrDo
import Derived.Test.YtmhiolhgofackaaGreatBsFly
namespace Go.Proofs.YtmhiolhgofackaaGreat
open Go.RowKit
set_option linter.unusedVariables false
set_option linter.unusedSimpArgs false

/-- what a tree is, beside blocks that are known -/
structure Keeps (w0 : World) (T : World → Rows → Prop) : Prop where
  at_ : ∀ {W K r}, T W K → r ∈ K → W.heap[r.1]? = some r.2
  fr : ∀ {W K}, T W K → Fr [] w0 W
  write : ∀ {W K S W' K'}, T W K → (∀ k ∈ S, w0.heap.size ≤ k ∧ ∃ o, (k, o) ∈ K) → Fr S W W' → (∀ X, Iv X W W') → Known W' K W K' → T W' K'
abbrev MineT (w0 : World) (tb mb : Nat) (x : Hold) (n : Nat) : World → Rows → Prop := fun W K => Mine w0 W tb mb x n K
abbrev FlyT (w0 : World) (tb mb p : Nat) (x : Hold) (n m : Nat) (r : An) : World → Rows → Prop := fun W K => Fly w0 W tb mb p x n m r K
abbrev LandT (w0 : World) (tb mb p : Nat) (x : Hold) (n : Nat) (r : An) : World → Rows → Prop := fun W K => Landed w0 W tb mb p x n r K
theorem keeps_mine (w0 : World) (tb mb : Nat) (x : Hold) (n : Nat) : Keeps w0 (MineT w0 tb mb x n) := ⟨fun h hm => h.at (o := _) hm, fun h => h.fr, fun h hS hf hi hk => Mine.write h hS hf hi hk⟩
theorem keeps_fly (w0 : World) (tb mb p : Nat) (x : Hold) (n m : Nat) (r : An) : Keeps w0 (FlyT w0 tb mb p x n m r) := ⟨fun h hm => h.at (o := _) hm, fun h => h.fr, fun h hS hf hi hk => Fly.write h hS hf hi hk⟩
theorem keeps_land (w0 : World) (tb mb p : Nat) (x : Hold) (n : Nat) (r : An) : Keeps w0 (LandT w0 tb mb p x n r) := ⟨fun h hm => h.at (o := _) hm, fun h => h.fr, fun h hS hf hi hk => Landed.write h hS hf hi hk⟩
/-- a tree and a Crowd; E: blocks that stay -/
def Al (T : World → Rows → Prop) (w0 w : World) (B : CB) (ps : List Nat) (c : Cro) (E : Rows) : Prop :=
  ∃ K, T w (E ++ K) ∧ CrAt w B ps c ∧ (∀ b ∈ B.foot, w0.heap.size ≤ b ∧ ∃ o, (b, o) ∈ K) ∧ (∀ r ∈ E, r.1 ∉ B.foot) ∧ CroOk c ∧ c.cas.length = ps.length
section
variable {T : World → Rows → Prop} {w0 w w' : World} {tb mb n m p : Nat} {x : Hold} {r : An} {ps : List Nat} {B : CB} {c : Cro} {E : Rows}
theorem Al.at (hk : Keeps w0 T) (h : Al T w0 w B ps c E) {b : Nat} {o : Obj} (hm : (b, o) ∈ E) : w.heap[b]? = some o := by
  obtain ⟨K, h, _⟩ := h
  exact hk.at_ h (List.mem_append_left _ hm)
theorem Al.cr (h : Al T w0 w B ps c E) : CrAt w B ps c := by obtain ⟨K, _, h, _⟩ := h; exact h
theorem Al.ok (h : Al T w0 w B ps c E) : CroOk c := by obtain ⟨K, _, _, _, _, h, _⟩ := h; exact h
theorem Al.len (h : Al T w0 w B ps c E) : c.cas.length = ps.length := by obtain ⟨K, _, _, _, _, _, h⟩ := h; exact h
theorem Al.fr (hk : Keeps w0 T) (h : Al T w0 w B ps c E) : Fr [] w0 w := by obtain ⟨K, h, _⟩ := h; exact hk.fr h
/-- other blocks that stay: known ones, and new ones -/
theorem Al.rows {E' : Rows} (hk : Keeps w0 T) (h : Al T w0 w B ps c E) (hf : Fr [] w w') (hE : ∀ r ∈ E', w'.heap[r.1]? = some r.2 ∧ ((∃ o, (r.1, o) ∈ E) ∨ w.heap.size ≤ r.1)) : Al T w0 w' B ps c E' := by
  obtain ⟨K, h1, h2, h3, h4, h5⟩ := h
  refine ⟨K, hk.write h1 (S := []) (by simp) hf (fun _ => hf.iv0) (fun r hr => ?_), h2.keep0 hf, h3, fun r hr hm => ?_, h5⟩
  · rcases List.mem_append.1 hr with hr | hr
    · obtain ⟨k1, k2⟩ := hE r hr
      exact ⟨k1, k2.imp (fun ⟨o, ho⟩ => ⟨o, List.mem_append_left _ ho⟩) id⟩
    · exact ⟨hf.keep (hk.at_ h1 (List.mem_append_right _ hr)) (by simp), Or.inl ⟨_, List.mem_append_right _ hr⟩⟩
  · obtain ⟨_, k2⟩ := hE r hr
    rcases k2 with ⟨o, ho⟩ | k2
    · exact h4 _ ho hm
    · obtain ⟨o, ho⟩ := (h3 _ hm).2
      have := lt_of_block (hk.at_ h1 (List.mem_append_right _ ho))
      omega
theorem Al.keep0 (hk : Keeps w0 T) (h : Al T w0 w B ps c E) (hf : Fr [] w w') : Al T w0 w' B ps c E := h.rows hk hf (fun r hr => ⟨hf.keep (h.at hk (o := r.2) hr) (by simp), Or.inl ⟨_, hr⟩⟩)
theorem Al.alloc (hk : Keeps w0 T) (h : Al T w0 w B ps c E) (cs : Array Value) (ty : TypeId) : Al T w0 (w.alloc (.cells cs ty)) B ps c ((w.heap.size, .cells cs ty (0, 0)) :: E) :=
  h.rows hk ((Fr.refl [] w).alloc _) (fun r hr => by
    rcases List.mem_cons.1 hr with rfl | hr
    · exact ⟨new_block w _, Or.inr (Nat.le_refl _)⟩
    · exact ⟨((Fr.refl [] w).alloc _).keep (h.at hk (o := r.2) hr) (by simp), Or.inl ⟨_, hr⟩⟩)
theorem Al.sub {E' : Rows} (hk : Keeps w0 T) (h : Al T w0 w B ps c E) (hE : ∀ r ∈ E', r ∈ E) : Al T w0 w B ps c E' := h.rows hk (Fr.refl [] w) (fun r hr => ⟨h.at hk (o := r.2) (hE r hr), Or.inl ⟨_, hE r hr⟩⟩)
/-- the tree changes -/
theorem Al.turn {T' : World → Rows → Prop} (hk : Keeps w0 T) (hk' : Keeps w0 T') (h : Al T w0 w B ps c E) (ht : ∀ K, T w K → T' w' K) : Al T' w0 w' B ps c E := by
  obtain ⟨K, h1, h2, h3, h4, h5⟩ := h
  have h1' := ht _ h1
  exact ⟨K, h1', h2.rows (K := E ++ K) (fun b hb => (h3 b hb).2.imp fun o ho => List.mem_append_right _ ho) (fun r hr => hk.at_ h1 hr) (fun r hr => hk'.at_ h1' hr), h3, h4, h5⟩
/-- a call begins -/
theorem al_Begin (hk : Keeps w0 T) (h : Al T w0 w B ps c E) (hn : c.now ≤ 100000) (hc : c.cas.length ≤ 50000) {m : Nat} (hs : c.sl[m]? = some none) (p : Nat) (kind : Int) (key : ByteArray) :
    Calls Tryz.prog 21 #[pt B.cb, .int .i64 (m : Int), pt p, .int .i64 kind, .string key] w fun e w' => e = .returned (.int .i64 0) ∧ Hid (∃ v, Al T w0 w' { B with cv := v } (ps ++ [p]) (c.begin m kind key) E) := by
  obtain ⟨K, h1, h3, h4, hE, h5, h6⟩ := h
  refine (cr_Begin_ok h3 hs h6.symm (h5.under h6) hc (by omega) p kind key).mono ?_
  rintro e w' ⟨he, v, hv⟩
  obtain ⟨k1, k2, k3⟩ := hv.out
  refine ⟨he, Lib.hid ⟨v, ?_⟩⟩
  obtain ⟨K', j1, j2⟩ := k1.objs
  have hfoot : ∀ b ∈ CB.foot { B with cv := v }, b ∈ B.foot ∨ w.heap.size ≤ b := by
    intro b hb
    unfold CB.foot at hb ⊢
    rcases List.mem_cons.1 hb with rfl | hb
    · exact Or.inl (List.mem_cons_self ..)
    rcases List.mem_cons.1 hb with rfl | hb
    · exact Or.inl (List.mem_cons_of_mem _ (List.mem_cons_self ..))
    · rcases k3 b (by simpa using hb) with e | e
      · exact Or.inl (by simp [e])
      · exact Or.inr e
  refine ⟨K', hk.write h1 (S := B.foot) (fun b hb => ?_) k2 (iv_of k2 h3.types) (fun r hr => ?_), k1, fun b hb => ⟨?_, j2 b hb⟩, fun r hr hm => ?_, h5.begin hs kind key, ?_⟩
  · obtain ⟨q, o, ho⟩ := h4 b hb
    exact ⟨q, o, List.mem_append_right _ ho⟩
  · rcases List.mem_append.1 hr with hr | hr
    · exact ⟨k2.keep (hk.at_ h1 (List.mem_append_left _ hr)) (hE r hr), Or.inl ⟨_, List.mem_append_left _ hr⟩⟩
    · obtain ⟨i1, i2⟩ := j1 r hr
      refine ⟨i1, (hfoot _ i2).imp (fun q => ?_) id⟩
      obtain ⟨_, o, ho⟩ := h4 _ q
      exact ⟨o, List.mem_append_right _ ho⟩
  · rcases hfoot b hb with q | q
    · exact (h4 b q).1
    · exact Nat.le_trans (hk.fr h1).size q
  · rcases hfoot _ hm with q | q
    · exact hE r hr q
    · have := lt_of_block (hk.at_ h1 (List.mem_append_left _ hr))
      omega
  · show (c.cas ++ _).length = (ps ++ _).length
    rw [List.length_append, List.length_append, h6]; rfl
/-- a call on its way isn't answered -/
theorem fly_answer_not {K : Rows} (h : Fly w0 w tb mb p x n m r K) : Calls Tryz.prog 31 #[pt p] w fun e w' => e = .returned (.tuple #[An.no.agg, .bool false]) ∧ Fr [] w w' := by
  obtain ⟨A, a, t, c, s, V, T, C, L, h1, h2, rfl, h4, h5, h6⟩ := h
  obtain ⟨f, y, z, rfl⟩ := StpAt.form h5
  exact ans_not h4.call.cbk
def FlyR (w0 : World) (tb mb p : Nat) (x : Hold) (n m : Nat) (r : An) (W : World) (K : Rows) (b : Bool) (a : An) : Prop :=
  (b = true → Landed w0 W tb mb p x n r K) ∧ (b = false → Fly w0 W tb mb p x n m r K) ∧ a.err = 0 ∧ a.ok = (b && r.ok)
theorem fly_steps {K : Rows} (h : Fly w0 w tb mb p x n (m + 1) r K) (hr : r.err = 0) : Steps w0.heap.size w p K (FlyR w0 tb mb p x n m r) where
  step := fun W K' hW hk => by
    have h1 : Fly w0 W tb mb p x n (m + 1) r K' := Fly.write h (S := []) (by simp) hW (fun _ => hW.iv0) hk
    refine (fly_step h1).mono ?_
    rintro e w' ⟨b, he, h2⟩
    exact ⟨b, ⟨b && r.ok, ByteArray.empty, 0, 0⟩, he, Lib.hid ⟨h2.out.1, h2.out.2, rfl, rfl⟩⟩
  ans := by
    rintro W K' b a ⟨h1, h2, h3, h4⟩
    cases b
    · refine (fly_answer_not (h2 rfl)).mono ?_
      rintro e w' ⟨he, hf⟩
      exact ⟨An.no, by rw [h4]; rfl, rfl, he, hf⟩
    · refine (landed_answer (h1 rfl)).mono ?_
      rintro e w' ⟨he, hf⟩
      exact ⟨r, by rw [h4]; rfl, hr, he, hf⟩
  same := by
    rintro W K' b a a' ⟨h1, h2, h3, h4⟩ ho he
    exact ⟨h1, h2, he, ho.trans h4⟩
  at_ := by
    rintro W K' b a q ⟨h1, h2, h3, h4⟩ hm
    cases b
    · exact (h2 rfl).at (o := q.2) hm
    · exact (h1 rfl).at (o := q.2) hm
  write := by
    rintro W K' b a S W' K'' ⟨h1, h2, h3⟩ hS hf hi hk
    exact ⟨fun e => Landed.write (h1 e) hS hf hi hk, fun e => Fly.write (h2 e) hS hf hi hk, h3⟩
  err := fun hr' => hr'.2.2.1
theorem al_Pick (h : Al (FlyT w0 tb mb p x n (m + 1) r) w0 w B ps c E) (hr : r.err = 0) (hn : c.now ≤ 1000000) {t i : Nat} (hs : c.sl[t]? = some (some i)) (hp : ps[i]? = some p) :
    Calls Tryz.prog 13 #[pt B.cb, .int .i64 (t : Int)] w fun e w' => e = .returned (.bool true) ∧ Hid (∃ y, c.cas[i]? = some y ∧ (Al (LandT w0 tb mb p x n r) w0 w' B ps (c.pick t i y true r.ok) E ∨ Al (FlyT w0 tb mb p x n m r) w0 w' B ps (c.pick t i y false false) E)) := by
  obtain ⟨K, h1, h3, h4, hE, h5, h6⟩ := h
  obtain ⟨y, hy, hyr⟩ := h5.has t i hs
  refine (cr_Pick h3 hs hp hy (E := E) (KB := K) (fly_steps h1 hr) (Fly.fr h1).size (fun q hq => Fly.at h1 (o := q.2) hq) h4 hE hn).mono ?_
  rintro e w' ⟨he, hR⟩
  obtain ⟨b, a, K', ⟨k1, k2, k3, k6⟩, k4, k5⟩ := hR.out
  refine ⟨he, Lib.hid ⟨y, hy, ?_⟩⟩
  have hl : ∀ b ok, (c.pick t i y b ok).cas.length = ps.length := fun b ok => by
    show (c.cas.set _ _).length = _
    rw [List.length_set, h6]
  cases b
  · rw [k6] at k4
    exact Or.inr ⟨K', k2 rfl, k4, fun k hk => ⟨(h4 k hk).1, k5 k hk⟩, hE, h5.pick hs hy _ _, hl _ _⟩
  · rw [k6] at k4
    exact Or.inl ⟨K', k1 rfl, k4, fun k hk => ⟨(h4 k hk).1, k5 k hk⟩, hE, h5.pick hs hy _ _, hl _ _⟩
theorem al_Idle (h : Al T w0 w B ps c E) (t : Int) : Calls Tryz.prog 11 #[pt B.cb, .int .i64 t] w fun e w' => e = .returned (.bool (idleAt c t)) ∧ Fr [] w w' := cr_Idle h.cr t
theorem al_Calls (h : Al T w0 w B ps c E) (hb : c.cas.length ≤ 50000) : Calls Tryz.prog 10 #[pt B.cb] w fun e w' => ∃ v, e = .returned v ∧ LAt Ca.cells 40 5 w' v c.cas ∧ Fr [] w w' ∧ ∀ k, v.ownBlock = some k → w.heap.size ≤ k := cr_Calls h.cr hb
theorem al_ins (h : Al (MineT w0 tb mb x n) w0 w B ps c E) (hn : n ≤ 2000) (k : ByteArray) :
    Calls Tryz.prog 22 #[pt tb, .string k, .int .u64 5] w fun e w' => ∃ p, e = .returned (pt p) ∧ Hid (Al (FlyT w0 tb mb p (doX x 1 k 5).1 (n + 1) (3 * n + 15) (doX x 1 k 5).2) w0 w' B ps c E) := by
  obtain ⟨K, h1, h2, h3, h4, h5⟩ := h
  refine (fly_Insert h1 hn k 5).mono ?_
  rintro e w' ⟨p, he, hv, _⟩
  exact ⟨p, he, Lib.hid ⟨K, hv.out, h2.rows (K := E ++ K) (fun b hb => (h3 b hb).2.imp fun o ho => List.mem_append_right _ ho) (fun q hq => h1.at (o := q.2) hq) (fun q hq => hv.out.at (o := q.2) hq), h3, h4, h5⟩⟩
theorem al_del (h : Al (MineT w0 tb mb x n) w0 w B ps c E) (hn : n ≤ 2000) (k : ByteArray) :
    Calls Tryz.prog 25 #[pt tb, .string k] w fun e w' => ∃ p, e = .returned (pt p) ∧ Hid (Al (FlyT w0 tb mb p (doX x 2 k 0).1 (n + 1) (3 * n + 15) (doX x 2 k 0).2) w0 w' B ps c E) := by
  obtain ⟨K, h1, h2, h3, h4, h5⟩ := h
  refine (fly_Delete h1 hn k).mono ?_
  rintro e w' ⟨p, he, hv, _⟩
  exact ⟨p, he, Lib.hid ⟨K, hv.out, h2.rows (K := E ++ K) (fun b hb => (h3 b hb).2.imp fun o ho => List.mem_append_right _ ho) (fun q hq => h1.at (o := q.2) hq) (fun q hq => hv.out.at (o := q.2) hq), h3, h4, h5⟩⟩
theorem al_find (h : Al (MineT w0 tb mb x n) w0 w B ps c E) (hn : n ≤ 2000) (k : ByteArray) :
    Calls Tryz.prog 26 #[pt tb, .string k] w fun e w' => ∃ p, e = .returned (pt p) ∧ Hid (Al (FlyT w0 tb mb p (doX x 3 k 0).1 (n + 1) (3 * n + 15) (doX x 3 k 0).2) w0 w' B ps c E) := by
  obtain ⟨K, h1, h2, h3, h4, h5⟩ := h
  refine (fly_Find h1 hn k).mono ?_
  rintro e w' ⟨p, he, hv, _⟩
  exact ⟨p, he, Lib.hid ⟨K, hv.out, h2.rows (K := E ++ K) (fun b hb => (h3 b hb).2.imp fun o ho => List.mem_append_right _ ho) (fun q hq => h1.at (o := q.2) hq) (fun q hq => hv.out.at (o := q.2) hq), h3, h4, h5⟩⟩
/-- the value that is inserted -/
def vOf (kind : Int) : Int := if kind = 1 then 5 else 0
/-- a call is under way -/
def UnderWay (w0 w : World) (tb mb cb : Nat) (x : Hold) (n : Nat) (ps : List Nat) (c : Cro) (E : Rows) (kind : Int) (key : ByteArray) : Prop :=
  ∃ p B, B.cb = cb ∧ Al (FlyT w0 tb mb p (doX x kind key (vOf kind)).1 (n + 1) (3 * n + 15) (doX x kind key (vOf kind)).2) w0 w B (ps ++ [p]) (c.begin 2 kind key) E
set_option maxRecDepth 20000 in
set_option maxHeartbeats 4000000 in
theorem al_do (h : Al (MineT w0 tb mb x n) w0 w B ps c E) (hn : n ≤ 2000) (hnow : c.now ≤ 100000) (hcas : c.cas.length ≤ 50000) (hs : c.sl[2]? = some none) {kind : Int} (key : ByteArray) (hk : kind = 1 ∨ kind = 2 ∨ kind = 3) :
    Calls Tryz.prog 8 #[pt tb, pt B.cb, .agg #[.int .i64 kind, .int .i64 2, .string key]] w fun e w' => e = .returned (.int .i64 0) ∧ Hid (UnderWay w0 w' tb mb B.cb x n ps c E kind key) := by
  obtain ⟨wb, hwb⟩ : ∃ wb, wb = w.alloc (.cells #[.int .i64 kind, .int .i64 2, .string key] 32) := ⟨_, rfl⟩
  obtain ⟨q, hq⟩ : ∃ q, q = w.heap.size := ⟨_, rfl⟩
  have HB := Lib.hid (h.alloc (keeps_mine w0 tb mb x n) #[.int .i64 kind, .int .i64 2, .string key] 32)
  rw [← hwb, ← hq] at HB
  have HWB := Lib.hid (show wb = _ ∧ q = _ from ⟨hwb, hq⟩)
  have HS := Lib.hid hs
  have hbl := HB.out.at (keeps_mine w0 tb mb x n) (List.mem_cons_self ..)
  clear h hwb hq hs
  obtain ⟨_, b1, b2, b3⟩ := cells3 hbl
  have hq1 := lt_of_block hbl
  clear hbl
  rcases hk with rfl | rfl | rfl
  · go_enter Tryz.func8, Tryz.ntmps8
    go_wp2_with fail
    rw [← HWB.out.1, ← HWB.out.2]
    go_region_held3 (fun W => W.cell? ⟨q, 1, none⟩ = some (.int .i64 2) ∧ W.cell? ⟨q, 2, none⟩ = some (.string key)) (go_keep)
      (first
        | (go_at_call 22; refine (al_ins (HB.out.keep0 (keeps_mine w0 tb mb x n) (Fr.refl [] wb).drew) hn key).mono ?_; rintro e w2 ⟨p, rfl, HM⟩
           have HA2 := Lib.hid (HM.out.at (keeps_fly ..) (List.mem_cons_self ..))
           obtain ⟨_, b1, b2, b3⟩ := cells3 HA2.out
           have hq2 := lt_of_block HA2.out)
        | (go_at_call 21; refine (al_Begin (keeps_fly ..) HM.out hnow hcas (m := 2) HS.out p _ key).mono ?_; rintro e w3 ⟨rfl, HV⟩
           have HA := Lib.hid (show w3.heap[q]? = some _ from by obtain ⟨v, hv⟩ := HV.out; exact hv.at (keeps_fly ..) (List.mem_cons_self ..))
           obtain ⟨_, b1, b2, b3⟩ := cells3 HA.out
           have hq3 := lt_of_block HA.out))
    all_goals go_wp2_with fail
    all_goals go_ret
    all_goals obtain ⟨v, hv⟩ := HV.out
    all_goals exact ⟨rfl, Lib.hid ⟨p, { B with cv := v }, rfl, hv.sub (keeps_fly ..) (fun r hr => List.mem_cons_of_mem _ hr)⟩⟩
  · go_enter Tryz.func8, Tryz.ntmps8
    go_wp2_with fail
    rw [← HWB.out.1, ← HWB.out.2]
    go_region_held3 (fun W => W.cell? ⟨q, 1, none⟩ = some (.int .i64 2) ∧ W.cell? ⟨q, 2, none⟩ = some (.string key)) (go_keep)
      (first
        | (go_at_call 25; refine (al_del (HB.out.keep0 (keeps_mine w0 tb mb x n) (Fr.refl [] wb).drew) hn key).mono ?_; rintro e w2 ⟨p, rfl, HM⟩
           have HA2 := Lib.hid (HM.out.at (keeps_fly ..) (List.mem_cons_self ..))
           obtain ⟨_, b1, b2, b3⟩ := cells3 HA2.out
           have hq2 := lt_of_block HA2.out)
        | (go_at_call 21; refine (al_Begin (keeps_fly ..) HM.out hnow hcas (m := 2) HS.out p _ key).mono ?_; rintro e w3 ⟨rfl, HV⟩
           have HA := Lib.hid (show w3.heap[q]? = some _ from by obtain ⟨v, hv⟩ := HV.out; exact hv.at (keeps_fly ..) (List.mem_cons_self ..))
           obtain ⟨_, b1, b2, b3⟩ := cells3 HA.out
           have hq3 := lt_of_block HA.out))
    all_goals go_wp2_with fail
    all_goals go_ret
    all_goals obtain ⟨v, hv⟩ := HV.out
    all_goals exact ⟨rfl, Lib.hid ⟨p, { B with cv := v }, rfl, hv.sub (keeps_fly ..) (fun r hr => List.mem_cons_of_mem _ hr)⟩⟩
  · go_enter Tryz.func8, Tryz.ntmps8
    go_wp2_with fail
    rw [← HWB.out.1, ← HWB.out.2]
    go_region_held3 (fun W => W.cell? ⟨q, 1, none⟩ = some (.int .i64 2) ∧ W.cell? ⟨q, 2, none⟩ = some (.string key)) (go_keep)
      (first
        | (go_at_call 26; refine (al_find (HB.out.keep0 (keeps_mine w0 tb mb x n) (Fr.refl [] wb).drew) hn key).mono ?_; rintro e w2 ⟨p, rfl, HM⟩
           have HA2 := Lib.hid (HM.out.at (keeps_fly ..) (List.mem_cons_self ..))
           obtain ⟨_, b1, b2, b3⟩ := cells3 HA2.out
           have hq2 := lt_of_block HA2.out)
        | (go_at_call 21; refine (al_Begin (keeps_fly ..) HM.out hnow hcas (m := 2) HS.out p _ key).mono ?_; rintro e w3 ⟨rfl, HV⟩
           have HA := Lib.hid (show w3.heap[q]? = some _ from by obtain ⟨v, hv⟩ := HV.out; exact hv.at (keeps_fly ..) (List.mem_cons_self ..))
           obtain ⟨_, b1, b2, b3⟩ := cells3 HA.out
           have hq3 := lt_of_block HA.out))
    all_goals go_wp2_with fail
    all_goals go_ret
    all_goals obtain ⟨v, hv⟩ := HV.out
    all_goals exact ⟨rfl, Lib.hid ⟨p, { B with cv := v }, rfl, hv.sub (keeps_fly ..) (fun r hr => List.mem_cons_of_mem _ hr)⟩⟩
end
end Go.Proofs.YtmhiolhgofackaaGreat
