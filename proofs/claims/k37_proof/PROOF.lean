import PyProof.Rows.All
import Wide.All
import OpenK.AllK
import Wide.FinOn
import HandS.ForMost
import HandS.Wide
import HandS.Walk
import HandS.Flow
import HandS.Codes
import HandS.IsInst
import HandS.Deep
import HandS.SortKw
import HandS.ExcValue
import HandS.Lambda
import KE.SortKeyHeap
import KE.DataMinMax
import HandS.FStr
import HandS.Star
import HandS.TupAny
import PyProof.ReprRoads
import PyProof.Lay0
import HandS.Exc
import HandS.ExcOwn
import HandS.WordsExc
import HandS.EndTab
import HandS.Text
import KE.KExcSuper
import HandS.Ends
import KE.KUnpackStar
import HandS.Evl
import HandS.NoneIn
import PyProof.NeKinds
import HandS.ExcIs
import HandS.ExcField
import KE.KIsAll
import KE.KTryMore
import HandS.ExcBuiltin
import PyProof.StrOps2
import HandS.Defaults
import KE.KNestM
import PySem.Challenge.RW_termyard_k37_texts_of_plans
set_option Elab.async false
set_option linter.all false
set_option maxRecDepth 100000
set_option maxHeartbeats 4000000
namespace K1
open PySem PySem.Spec PyProof.Rows L2
def topS (i : Nat) : Stmt := PySem.Challenge.pw_termyard_k37_texts_of_plans.main.body.getD i (.Pass ⟨0, 0, 0, 0⟩)
abbrev sBegun : Stmt := topS 32
abbrev sMixed : Stmt := topS 33
abbrev sTake : Stmt := topS 34
abbrev sPick : Stmt := topS 35
/-- the state's dict -/
def stK (g c : Addr) (r t : Int) : List (Key × V) := [(.inr "great", .ref g), (.inr "cells", .ref c), (.inr "rest", .int r), (.inr "turn", .int t)]
/-- what is drawn from stands at d: the great cells at g, all cells at c; at most t numbers were mixed -/
structure Gen (d g c : Addr) (t : Nat) (H : Hp) : Prop where
  ne : c ≠ g
  ex : ∃ (gs cs : List Int) (r : Int) (u : Nat), H d = some (.dK (stK g c r u)) ∧ H g = some (.lst (gs.map V.int)) ∧ H c = some (.lst (cs.map V.int)) ∧ u ≤ t
/-- all but d and g stand as they did -/
def Kp (d g : Addr) (H H' : Hp) : Prop := ∀ b o, b ≠ d → b ≠ g → H b = some o → H' b = some o
theorem Kp.refl {d g : Addr} {H : Hp} : Kp d g H H := fun _ _ _ _ h => h
theorem Kp.trans {d g : Addr} {H H1 H2 : Hp} (a : Kp d g H H1) (b : Kp d g H1 H2) : Kp d g H H2 := fun x o h1 h2 e => b x o h1 h2 (a x o h1 h2 e)
theorem Kp.of {d g : Addr} {H H1 : Hp} (a : Same H H1) : Kp d g H H1 := fun x o _ _ e => a x o e
theorem Kp.upd {d g p : Addr} {o : HO} {H H1 : Hp} (a : Kp d g H H1) (h : H p = none ∨ p = d ∨ p = g) : Kp d g H (upd H1 p o) := fun x u h1 h2 e => by
  by_cases hx : x = p
  · subst hx
    rcases h with h | h | h
    · rw [h] at e
      cases e
    · exact absurd h h1
    · exact absurd h h2
  · rw [upd_ne hx]
    exact a x u h1 h2 e
theorem Gen.mono {d g c : Addr} {t t' : Nat} {H : Hp} (G : Gen d g c t H) (h : t ≤ t') : Gen d g c t' H := by
  obtain ⟨n, gs, cs, r, u, e1, e2, e3, e4⟩ := G
  exact ⟨n, gs, cs, r, u, e1, e2, e3, Nat.le_trans e4 h⟩
theorem Gen.same {d g c : Addr} {t : Nat} {H H' : Hp} (G : Gen d g c t H) (s : Same H H') : Gen d g c t H' := by
  obtain ⟨n, gs, cs, r, u, e1, e2, e3, e4⟩ := G
  exact ⟨n, gs, cs, r, u, s _ _ e1, s _ _ e2, s _ _ e3, e4⟩
theorem Same.new {H H1 : Hp} {p : Addr} {o : HO} (a : Same H H1) (h : H1 p = none) : Same H (upd H1 p o) := fun x u e => by
  rw [upd_ne (ne_of_none (a x u e) h)]
  exact a x u e
theorem Gen.new {d g c p : Addr} {o : HO} {t : Nat} {H : Hp} (G : Gen d g c t H) (h : H p = none) : Gen d g c t (upd H p o) := G.same (Same.new (Same.refl H) h)
theorem Gen.free {d g c : Addr} {t t' : Nat} {H H' : Hp} (G : Gen d g c t H) (G' : Gen d g c t' H') (k : Kp d g H H') {p : Addr} (h : H' p = none) : H p = none := by
  cases q : H p with
  | none => rfl
  | some o =>
    obtain ⟨_, _, _, _, _, e1, e2, _⟩ := G'
    have h1 : p ≠ d := fun z => by rw [z, e1] at h; cases h
    have h2 : p ≠ g := fun z => by rw [z, e2] at h; cases h
    rw [k p o h1 h2 q] at h
    cases h

theorem pow10_18 : CPow 10 18 := ⟨by decide, by decide, by decide⟩
theorem stK_merge (g c : Addr) : mergeK [] (stK g c 0 0) = stK g c 0 0 := by
  rfl
def spBegun (K : PySem.W.Frag) : Sp := fun vs H Q _ => ∃ (a : Addr) (ns : List Int), vs = [.ref a] ∧ SqL K H a (ns.map V.int) ∧ ns.length ≤ 63 ∧
  ∀ (d g c : Addr) (H' : Hp), Gen d g c 0 H' → Same H H' → H d = none → H g = none → Q (.ref d) H'
def spMixed : Sp := fun vs H Q _ => ∃ (d g c : Addr) (t : Nat), vs = [.ref d] ∧ Gen d g c t H ∧ t < 2 ^ 30 ∧
  ∀ (v : Int) (H' : Hp), Gen d g c (t + 1) H' → Kp d g H H' → Q (.int v) H'
def spTake : Sp := fun vs H Q _ => ∃ (d g c : Addr) (t : Nat) (n : Int), vs = [.ref d, .int n] ∧ Gen d g c t H ∧ t < 2 ^ 30 ∧ 0 < n ∧ n < 2 ^ 60 ∧
  ∀ (v : Int) (H' : Hp), 0 ≤ v → v < n → Gen d g c (t + 1) H' → Kp d g H H' → Q (.int v) H'
/-- the built-ins that the text leaves alone -/
structure Txt (mg : Str → Option Value) : Prop where
  list : mg "list" = none
section
variable {P : Program} {w : World} {K : PySem.W.Frag} {mg : Str → Option Value} {base : Heap}
theorem scBegun : FnScope ["_law_script", "_law_wide", "_law_cell"] ["_law_script"] (defScope sBegun) := ⟨rfl, rfl, rfl, by decide +kernel, rfl, by decide +kernel, by decide +kernel⟩
theorem ok_begun {f : Addr} {fd : FuncData} (F : Fun K "_law_begun" "_law_begun" sBegun f fd) (T : Txt mg) : FnOk P w K mg base CX0 1 f fd ["_law_script"] (spBegun K) := by
  refine F.ok scBegun (fun vs H Q E h => ?_) (fun cdv A outer s H vs Q E hr h => ?_)
  · obtain ⟨a, ns, rfl, _⟩ := h
    rfl
  · obtain ⟨a, ns, rfl, hS, hl, k⟩ := h
    refine ⟨_, pss_cons (ps_setLc (i := 1) (own := [("_law_cell", 2)]) (g := gName 2) rfl scBegun.nd rfl rfl (sw_true rfl rfl rfl (by decide +kernel)) (pi_list (pv 0)) (blkOk_by (N := ["_law_script", "_law_wide", "_law_cell"]) (sc := defScope sBegun) (by decide +kernel))
        (fun _ _ _ _ _ => pg_name (i := 2) scBegun.nd rfl (Or.inl rfl)) (fun _ _ _ _ _ => pts_one (pt_cmpR op_ge (pv 2) (pe_op op_pow pe_int pe_int) (nomark _))) (fun _ _ _ _ _ => pe_op op_sub (pv 2) (pe_op op_pow pe_int pe_int)))
      (pss_one (ps_ret (pe_disp (pps_cons pe_str (pv 1) (pps_cons pe_str (pe_callTy call_list_of (by rfl) T.list (by decide +kernel) (pa_cons (pv 0) pa_nil)) (pps_cons pe_str pe_int (pps_cons pe_str pe_int pps_nil)))) (by rfl) (by rfl) (fun z => by cases z) (by decide)))), ?_⟩
    refine ⟨_, rfl, a, rfl, ⟨_, hS⟩, fun D hD => lc_list (K := K) (a := a) (xs := ns.map V.int) (fun i H' => ∃ gs : List Int, Same H H' ∧ H' D = some (.lst (gs.map V.int)) ∧ gs.length ≤ i)
      ⟨[], Same.new (Same.refl H) hD, upd_same, Nat.le_refl _⟩ (fun i H' _ ⟨_, s1, _⟩ => s1.seq hS) ?_ ?_⟩
    · rintro i x H' hi ⟨gs, s1, e1, l1⟩
      have hil := (List.getElem?_eq_some_iff.mp hi).1
      rw [List.length_map] at hil
      obtain ⟨z, rfl⟩ : ∃ z, x = V.int z := by
        rw [List.getElem?_map] at hi
        cases e : ns[i]? with
        | none => rw [e] at hi; cases hi
        | some z => rw [e] at hi; exact ⟨z, (Option.some.inj hi).symm⟩
      refine ⟨rfl, ?_⟩
      refine ⟨_, rfl, _, _, rfl, rfl, pow10_18, _, _, rfl, rfl, _, rfl, ?_⟩
      refine ite2 (fun _ => ?_) (fun _ => ?_)
      · refine ⟨_, rfl, _, _, rfl, rfl, pow10_18, _, _, rfl, rfl, gs.map V.int, e1, (by rw [List.length_map, sizeLine_eq]; omega), gs ++ [z - 10 ^ Int.toNat 18], ?_, ?_, ?_⟩
        · exact fun b o e => by
            rw [upd_ne (fun z => by rw [z, hD] at e; cases e)]
            exact s1 b o e
        · rw [upd_same, List.map_append]
          rfl
        · rw [List.length_append]
          exact Nat.succ_le_succ l1
      · exact ⟨gs, s1, e1, Nat.le_succ_of_le l1⟩
    · rintro H' ⟨gs, s1, e1, l1⟩
      intro p hp
      refine ⟨_, rfl, ⟨_, rfl, a, _, rfl, .inl ((Same.new s1 hp).seq hS), fun l hl => ⟨?_, stK D l 0 0, rfl, (by show 4 ≤ 15; decide), ?_⟩⟩⟩
      · rw [upd_ne (fun z => by rw [z, upd_same] at hl; cases hl), upd_same]
      · rw [stK_merge]
        have npD : D ≠ p := ne_of_none e1 hp
        have nlp : p ≠ l := fun z => by rw [z, upd_same] at hl; cases hl
        have nlD : l ≠ D := fun z => by rw [z, upd_ne npD, e1] at hl; cases hl
        have hl' : H' l = none := by rw [upd_ne nlp.symm] at hl; exact hl
        have s2 : Same H (upd (upd (upd H' p (.dK [])) l (.lst (ns.map V.int))) p (.dK (stK D l 0 0))) := fun b o e => by
          have e' := s1 b o e
          rw [upd_ne (ne_of_none e' hp), upd_ne (ne_of_none e' hl'), upd_ne (ne_of_none e' hp)]
          exact e'
        refine k p D l _ ⟨nlD, gs, ns, 0, 0, upd_same, ?_, ?_, Nat.le_refl _⟩ s2 (Same.free s1 hp) hD
        · rw [upd_ne npD, upd_ne nlD.symm, upd_ne npD]
          exact e1
        · rw [upd_ne nlp.symm, upd_same]

def primes : List Int := [2147483629, 2147483587, 2147483579, 2147483563, 2147483549, 2147483543]
theorem primes_ok : ∀ z ∈ primes, 0 < z ∧ z < 2147483648 := by decide
theorem map_at {ns : List Int} {i : Nat} {x : V} (hi : (ns.map V.int)[i]? = some x) : ∃ z, ns[i]? = some z ∧ x = V.int z := by
  rw [List.getElem?_map] at hi
  cases e : ns[i]? with
  | none => rw [e] at hi; cases hi
  | some z => rw [e] at hi; exact ⟨z, rfl, (Option.some.inj hi).symm⟩
theorem stK_turn (g c : Addr) (r t : Int) : valV (stK g c r t) (Sum.inr "turn" : Key) = some (.int t) := rfl
theorem stK_rest (g c : Addr) (r t : Int) : valV (stK g c r t) (Sum.inr "rest" : Key) = some (.int r) := rfl
theorem stK_great (g c : Addr) (r t : Int) : valV (stK g c r t) (Sum.inr "great" : Key) = some (.ref g) := rfl
theorem stK_cells (g c : Addr) (r t : Int) : valV (stK g c r t) (Sum.inr "cells" : Key) = some (.ref c) := rfl
theorem stK_turn' (g c : Addr) (r t y : Int) : putK (stK g c r t) (Sum.inr "turn" : Key) (.int y) = stK g c r y := rfl
theorem stK_rest' (g c : Addr) (r t y : Int) : putK (stK g c r t) (Sum.inr "rest" : Key) (.int y) = stK g c y t := rfl
theorem scMixed : FnScope ["_law_state", "_law_turn", "_law_found", "_law_prime", "_law_blend", "_law_cell"] ["_law_state"] (defScope sMixed) := ⟨rfl, rfl, rfl, by decide +kernel, rfl, by decide +kernel, by decide +kernel⟩
theorem ok_mixed {f : Addr} {fd : FuncData} (F : Fun K "_law_mixed" "_law_mixed" sMixed f fd) (T : Txt mg) : FnOk P w K mg base CX0 1 f fd ["_law_state"] spMixed := by
  refine F.ok scMixed (fun vs H Q E h => ?_) (fun cdv A outer s H vs Q E hr h => ?_)
  · obtain ⟨d, g, c, t, rfl, _⟩ := h
    rfl
  · obtain ⟨d, g, c, t, rfl, G, ht, k⟩ := h
    obtain ⟨ncg, gs, cs, r, u, e1, e2, e3, hu⟩ := G
    have hu' := hu_of hr
    refine ⟨_, pss_cons (ps_set (i := 1) scMixed.nd rfl (Or.inl rfl) (pe_op op_add (pe_dget hu' (pv 0) pe_str (fun _ _ => rfl)) pe_int))
      (pss_cons (ps_dput hu' (pv 0) pe_str (pv 1) rfl)
      (pss_cons (ps_set (i := 2) scMixed.nd rfl (Or.inl rfl) pe_int)
      (pss_cons (ps_for PassesOwn.never rfl (pi_list (pe_lst (pa_cons pe_int (pa_cons pe_int (pa_cons pe_int (pa_cons pe_int (pa_cons pe_int (pa_cons pe_int pa_nil)))))))) (pg_name (i := 3) scMixed.nd rfl (Or.inl rfl))
        (pss_cons (ps_set (i := 4) scMixed.nd rfl (Or.inl rfl) (pe_op op_add (pe_op op_mul pe_int (pv 1)) (pe_op op_fdiv (pv 3) pe_int)))
        (pss_cons (ps_for PassesOwn.never rfl (pi_list (pe_dget hu' (pv 0) pe_str (fun _ _ => rfl))) (pg_name (i := 5) scMixed.nd rfl (Or.inl rfl))
          (pss_one (ps_set (i := 4) scMixed.nd rfl (Or.inl rfl) (pe_op op_mod (pe_op op_add (pe_op op_mul (pv 4) pe_int) (pv 5)) (pv 3)))))
        (pss_one (ps_set (i := 2) scMixed.nd rfl (Or.inl rfl) (pe_op op_add (pe_op op_mul (pv 2) pe_int) (pe_op op_mod (pe_op op_pow (pv 4) pe_int) (pv 3))))))))
      (pss_one (ps_ret (pv 2)))))), ?_⟩
    refine ⟨_, rfl, d, _, rfl, DGet.k (k := Sum.inr "turn") e1, _, _, rfl, rfl, ?_⟩
    refine ⟨_, rfl, _, rfl, d, _, rfl, DPut.k (k := Sum.inr "turn") e1 (by show 4 < sizeLine; decide), ?_⟩
    rw [stK_turn']
    refine ⟨(by show 6 ≤ sizeLine; decide), fun p hp => ?_⟩
    have hdg : g ≠ d := ne_of e2 e1 (by intro z; cases z)
    have hdc : c ≠ d := ne_of e3 e1 (by intro z; cases z)
    have fin : ∀ (v : Int) (H' : Hp), Same (upd (upd H d (.dK (stK g c r (u + 1)))) p (.lst (primes.map V.int))) H' → Q (.int v) H' := fun v H' sm => by
      have npd : ∀ b o, upd H d (.dK (stK g c r (u + 1))) b = some o → H' b = some o := fun b o e => sm b o (by rw [upd_ne (ne_of_none e hp)]; exact e)
      refine k v H' ⟨ncg, gs, cs, r, u + 1, npd _ _ upd_same, npd _ _ (by rw [upd_ne hdg]; exact e2), npd _ _ (by rw [upd_ne hdc]; exact e3), Nat.succ_le_succ hu⟩ fun b o h1 h2 e => npd b o (by rw [upd_ne h1]; exact e)
    refine ⟨p, rfl, ⟨_, SqL.of (xs := primes.map V.int) upd_same⟩, for_list (K := K) (a := p) (xs := primes.map V.int)
      (fun i σ H' => ∃ (fnd : Int) (v3 v4 v5 : Option V), σ = [some (.ref d), some (.int (u + 1)), some (.int fnd), v3, v4, v5] ∧ Same (upd (upd H d (.dK (stK g c r (u + 1)))) p (.lst (primes.map V.int))) H')
      ⟨0, none, none, none, rfl, Same.refl _⟩ (fun i σ H' _ ⟨_, _, _, _, _, sm⟩ => sm.seq (SqL.of upd_same)) ?_ ?_⟩
    · rintro i x σ H' hi ⟨fnd, v3, v4, v5, rfl, sm⟩
      obtain ⟨pr, hpr, rfl⟩ := map_at hi
      obtain ⟨p0, p1⟩ := primes_ok pr (List.mem_of_getElem? hpr)
      have npd : ∀ b o, upd H d (.dK (stK g c r (u + 1))) b = some o → H' b = some o := fun b o e => sm b o (by rw [upd_ne (ne_of_none e hp)]; exact e)
      refine ⟨_, rfl, _, _, rfl, rfl, .inl (by constructor <;> decide), _, rfl, _, _, rfl, rfl, ⟨by decide, by decide⟩, _, _, rfl, rfl, ?_⟩
      refine ⟨_, rfl, d, _, rfl, DGet.k (k := Sum.inr "cells") (npd _ _ upd_same), c, rfl, ⟨_, SqL.of (xs := cs.map V.int) (npd _ _ (by rw [upd_ne hdc]; exact e3))⟩, for_list (K := K) (a := c) (xs := cs.map V.int)
        (fun j σ H2 => ∃ (b : Int) (v5 : Option V), σ = [some (.ref d), some (.int (u + 1)), some (.int fnd), some (.int pr), some (.int b), v5] ∧ H2 = H' ∧ 0 ≤ b ∧ b < 2 ^ 50)
        ⟨_, _, rfl, rfl, ?_, ?_⟩ (fun j σ H2 _ ⟨_, _, _, z, _⟩ => by rw [z]; exact SqL.of (npd _ _ (by rw [upd_ne hdc]; exact e3))) ?_ ?_⟩
      · omega
      · omega
      · rintro j y σ H2 hj ⟨b, v5', rfl, rfl, b0, b1⟩
        obtain ⟨cell, _, rfl⟩ := map_at hj
        refine ⟨_, rfl, _, _, rfl, rfl, .inr (by constructor <;> decide), _, rfl, _, _, rfl, rfl, _, rfl, _, _, rfl, rfl, p0, ?_⟩
        exact ⟨_, _, rfl, rfl, Int.emod_nonneg _ (by omega), Int.lt_trans (Int.emod_lt_of_pos _ p0) (by omega)⟩
      · rintro σ H2 ⟨b, v5', rfl, rfl, b0, b1⟩
        refine ⟨_, rfl, _, _, rfl, rfl, .inr (by constructor <;> decide), _, rfl, _, _, rfl, rfl, ⟨by decide, by decide, by omega⟩, _, rfl, _, _, rfl, rfl, p0, _, _, rfl, rfl, ?_⟩
        exact ⟨_, _, _, _, rfl, sm⟩
    · rintro σ H' ⟨fnd, v3, v4, v5, rfl, sm⟩
      exact ⟨_, rfl, fin _ _ sm⟩

theorem dp_ints (K : PySem.W.Frag) (H : Hp) : ∀ gs : List Int, DpAll K H (gs.map V.int) (gs.map PyData.int)
  | [] => .nil
  | z :: r => .cons (.int z) (dp_ints K H r)
theorem lay_ints : ∀ gs : List Int, PyData.canLayAll0 (gs.map PyData.int) = true
  | [] => rfl
  | z :: r => by
    have ih := lay_ints r
    simpa [PyData.canLayAll0, PyData.canLay0] using ih
theorem depth_ints : ∀ gs : List Int, PyData.depthAll (gs.map PyData.int) ≤ 1
  | [] => by simp [PyData.depthAll]
  | z :: r => by
    have ih := depth_ints r
    simp [PyData.depthAll, PyData.depth] at ih ⊢
    omega
theorem shaped_ints (gs : List Int) : SeqAt.shaped (.list (gs.map PyData.int)) = true := by
  unfold SeqAt.shaped
  rw [Bool.and_eq_true]
  refine ⟨?_, ?_⟩
  · simpa [PyData.canLay0] using lay_ints gs
  · have := depth_ints gs
    simp [PyData.depth]
    omega

theorem seq0 (n : Nat) : seqIndex? 0 (n + 1) = some 0 := by
  unfold seqIndex?
  simp
theorem eqv_ints_nil (gs : List Int) : PyData.eqv (.list (gs.map PyData.int)) (.list []) = gs.isEmpty := by
  cases gs <;> rfl
theorem scTake : FnScope ["_law_state", "_law_size", "_law_found"] ["_law_state", "_law_size"] (defScope sTake) := ⟨rfl, rfl, rfl, by decide +kernel, rfl, by decide +kernel, by decide +kernel⟩
theorem ok_take {f fM : Addr} {fd fdM : FuncData} (F : Fun K "_law_take" "_law_take" sTake f fd) (FM : Fun K "_law_mixed" "_law_mixed" sMixed fM fdM) (bM : Binds K fdM ["_law_state"] []) (gM : mg "_law_mixed" = some (.ref fM)) (kM : PySem.W.keepIn K (.ref fM) = true) (T : Txt mg) : FnOk P w K mg base CX0 2 f fd ["_law_state", "_law_size"] spTake := by
  have GM : FnOk P w K mg base CX0 1 fM fdM ["_law_state"] spMixed := ok_mixed FM T
  refine F.ok scTake (fun vs H Q E h => ?_) (fun cdv A outer s H vs Q E hr h => ?_)
  · obtain ⟨d, g, c, t, n, rfl, _⟩ := h
    rfl
  · obtain ⟨d, g, c, t, n, rfl, G, ht, n0, n1, k⟩ := h
    obtain ⟨ncg, gs, cs, r, u, e1, e2, e3, hu⟩ := id G
    have hu' := hu_of hr
    refine ⟨_, pss_cons (ps_if (pt_cmpR op_eq (pe_dget hu' (pv 0) pe_str (fun _ _ => rfl)) pe_int (nomark _))
        (pss_one (ps_dput hu' (pv 0) pe_str (pe_ifExp (pt_cmpR (op_neD hr.units) (pe_dget hu' (pv 0) pe_str (fun _ _ => rfl)) (pe_lst pa_nil) (nomark _)) (pe_bm PySem.F.plainAttrs_list PySem.F.slot_list_pop PySem.F.type_list_pop mt_popAt (pe_dget hu' (pv 0) pe_str (fun _ _ => rfl)) (pa_cons pe_int pa_nil)) (pe_call GM hr rfl gM kM bM .nil pass0 (pa_cons (pv 0) pa_nil))) rfl)) pss_nil)
      (pss_cons (ps_set (i := 2) scTake.nd rfl (Or.inl rfl) (pe_op op_mod (pe_dget hu' (pv 0) pe_str (fun _ _ => rfl)) (pv 1)))
      (pss_cons (ps_dput hu' (pv 0) pe_str (pe_op op_fdivW (pe_dget hu' (pv 0) pe_str (fun _ _ => rfl)) (pv 1)) rfl)
      (pss_one (ps_ret (pv 2))))), ?_⟩
    -- what stands behind the if
    have last : ∀ (t' : Nat) (H' : Hp), t' ≤ t + 1 → Gen d g c t' H' → Kp d g H H' → ∀ σ : L2.St, σ = [some (.ref d), some (.int n), none] → tSeq (tAsg (tOp (rI (fun _ j => 0 < j) fun i j => .int (i % j)) (tDGet (tVar 0) (tC (.str "rest"))) (tVar 1)) (gName 2)) (tSeq (sDPut (tVar 0) (tC (.str "rest")) (tOp (rI CDivW fun i j => .int (i / j)) (tDGet (tVar 0) (tC (.str "rest"))) (tVar 1))) (tRet (tVar 2))) { nx := fun _ H' => Q .non H', rt := Q } σ H' := by
      rintro t' H' ht' ⟨ncg, gs, cs, r, u, e1, e2, e3, hu⟩ kp σ rfl
      refine ⟨_, rfl, d, _, rfl, DGet.k (k := Sum.inr "rest") e1, _, rfl, _, _, rfl, rfl, n0, ?_⟩
      refine ⟨_, rfl, d, _, rfl, DGet.k (k := Sum.inr "rest") e1, _, rfl, _, _, rfl, rfl, wide_div (b := 60) n0 (by omega) (by decide) (by decide), _, rfl, d, _, rfl, DPut.k (k := Sum.inr "rest") e1 (by show 4 < sizeLine; decide), ?_⟩
      rw [stK_rest']
      have hdg : g ≠ d := ne_of e2 e1 (by intro z; cases z)
      have hdc : c ≠ d := ne_of e3 e1 (by intro z; cases z)
      refine ⟨_, rfl, k _ _ (Int.emod_nonneg _ (by omega)) (Int.emod_lt_of_pos _ n0) ⟨ncg, gs, cs, _, u, upd_same, by rw [upd_ne hdg]; exact e2, by rw [upd_ne hdc]; exact e3, Nat.le_trans hu ht'⟩ (kp.upd (.inr (.inl rfl)))⟩
    refine ⟨_, rfl, d, _, rfl, DGet.k (k := Sum.inr "rest") e1, rfl, _, rfl, ?_⟩
    have hn2 : ∀ p, H p = none → ∀ o, Same H (upd H p o) := fun p hp o => Same.new (Same.refl H) hp
    refine ite2 (fun _ => ?_) (fun hc => ?_)
    · refine ⟨_, rfl, d, _, rfl, DGet.k (k := Sum.inr "great") e1, (by show 0 ≤ sizeLine; decide), fun p hp => ⟨.list (gs.map PyData.int), .list [], Dp.lst (SqL.of (hn2 p hp _ _ _ e2)) (dp_ints _ _ gs), Dp.lst (SqL.of upd_same) .nil, shaped_ints gs, by decide, _, rfl, ?_⟩⟩
      have s1 := hn2 p hp (.lst [])
      rw [eqv_ints_nil]
      cases gs with
      | nil =>
        refine iteF ⟨_, rfl, d, g, c, t, rfl, G.same s1, ht, fun v H2 G2 k2 => ?_⟩
        obtain ⟨_, gs2, cs2, r2, u2, a1, a2, a3, a4⟩ := id G2
        have hdg : g ≠ d := ne_of a2 a1 (by intro z; cases z)
        have hdc : c ≠ d := ne_of a3 a1 (by intro z; cases z)
        refine ⟨_, rfl, d, _, rfl, DPut.k (k := Sum.inr "rest") a1 (by show 4 < sizeLine; decide), ?_⟩
        rw [stK_rest']
        exact last (t + 1) _ (Nat.le_refl _) ⟨ncg, gs2, cs2, _, u2, upd_same, by rw [upd_ne hdg]; exact a2, by rw [upd_ne hdc]; exact a3, a4⟩ (((Kp.of s1).trans k2).upd (.inr (.inl rfl))) _ rfl
      | cons z gs =>
        refine iteT ?_
        have hdg : g ≠ d := ne_of e2 e1 (by intro z; cases z)
        have hdc : c ≠ d := ne_of e3 e1 (by intro z; cases z)
        refine ⟨_, rfl, d, _, rfl, DGet.k (k := Sum.inr "great") (s1 _ _ e1), .inl ⟨rfl, _, SqL.of (s1 _ _ e2)⟩, g, _, 0, 0, .int z, rfl, rfl, s1 _ _ e2, by decide, by decide, seq0 _, rfl, ?_⟩
        refine ⟨_, rfl, d, _, rfl, DPut.k (k := Sum.inr "rest") (by rw [upd_ne hdg.symm]; exact s1 _ _ e1) (by show 4 < sizeLine; decide), ?_⟩
        rw [stK_rest']
        exact last t _ (Nat.le_succ _) ⟨ncg, gs, cs, _, u, upd_same, by rw [upd_ne hdg, upd_same]; rfl, by rw [upd_ne hdc, upd_ne ncg]; exact s1 _ _ e3, hu⟩ (((Kp.of s1).upd (.inr (.inr rfl))).upd (.inr (.inl rfl))) _ rfl
    · exact last t H (Nat.le_succ _) G (Kp.of (Same.refl H)) _ rfl
end
end K1
set_option Elab.async false
set_option linter.all false
set_option maxRecDepth 100000
set_option maxHeartbeats 4000000
namespace K1
open PySem PySem.Spec PyProof.Rows L2
def isLow (c : Nat) : Bool := decide (97 ≤ c ∧ c ≤ 122)
def nameB (w : Str) : Bool := decide (1 ≤ w.length ∧ w.length ≤ 8) && w.cps.toList.all isLow
def ownW : List Str := Txt.split (Str.ofString "stay none turn any then else not often part parts scheme row heap pair plain fill same over tell" ++ Str.ofString " try rest is one some lift run lead skip low high low") " "
theorem ownW_ok : ∀ w ∈ ownW, nameB w = true := by decide +kernel
theorem ownW_len : 0 < ownW.length ∧ ownW.length ≤ 40 := by decide +kernel
abbrev abc : Str := Str.ofString "abcdefghijklmnopqrstuvwxyz"
theorem abc_l : abc.cps.toList = (List.range 26).map (· + 97) := by decide +kernel
theorem abc_len : abc.length = 26 := by decide +kernel
theorem abc_low : ∀ c ∈ abc.cps.toList, isLow c = true := by decide +kernel
theorem len_toList (w : Str) : w.cps.toList.length = w.length := by
  simp [Str.length]
theorem app_l (a b : Str) : (a ++ b).cps.toList = a.cps.toList ++ b.cps.toList := by
  show (a.cps ++ b.cps).toList = _
  simp
theorem ext_l {a b : Str} (h : a.cps.toList = b.cps.toList) : a = b := by
  cases a with
  | mk x =>
    cases b with
    | mk y =>
      have : x = y := by
        have h' : x.toList = y.toList := h
        exact Array.toList_inj.mp h'
      rw [this]
/-- a word made otherwise: its first six letters, z, one more -/
def cand (w : Str) (c : Nat) : Str := (cutS w none (some 6) ++ Str.ofString "z") ++ ⟨#[c]⟩
theorem z_l : (Str.ofString "z").cps.toList = [122] := by decide +kernel
theorem cand_l (w : Str) (c : Nat) : (cand w c).cps.toList = w.cps.toList.take 6 ++ [122, c] := by
  unfold cand
  rw [app_l, app_l, z_l]
  have h : (cutS w none (some 6)).cps.toList = w.cps.toList.take 6 := by
    have e1 : HT.sIx w.length 0 none = 0 := rfl
    have e2 : HT.sIx w.length w.length (some 6) = min 6 w.length := by
      simp [HT.sIx]
    show ((w.cps.toList.drop (HT.sIx w.length 0 none)).take (HT.sIx w.length w.length (some 6) - HT.sIx w.length 0 none)).toArray.toList = _
    rw [e1, e2]
    simp only [List.drop_zero, Nat.sub_zero]
    rw [← len_toList w]
    by_cases hl : 6 ≤ w.cps.toList.length
    · rw [Nat.min_eq_left hl]
    · rw [Nat.min_eq_right (by omega), List.take_of_length_le (Nat.le_refl _), List.take_of_length_le (by omega)]
  rw [h]
  simp
theorem cand_inj {w : Str} {c c' : Nat} (h : cand w c = cand w c') : c = c' := by
  have e : (cand w c).cps.toList = (cand w c').cps.toList := by rw [h]
  rw [cand_l, cand_l] at e
  have e2 := List.append_cancel_left e
  simpa using e2
theorem cand_name {w : Str} {c : Nat} (h : nameB w = true) (hc : isLow c = true) : nameB (cand w c) = true := by
  unfold nameB at h ⊢
  rw [Bool.and_eq_true] at h ⊢
  obtain ⟨h1, h2⟩ := h
  have el := len_toList (cand w c)
  rw [cand_l] at el ⊢
  refine ⟨?_, ?_⟩
  · rw [decide_eq_true_iff, ← el]
    simp
    omega
  · rw [List.all_append, Bool.and_eq_true]
    refine ⟨?_, ?_⟩
    · rw [List.all_eq_true] at h2 ⊢
      exact fun x hx => h2 x (List.mem_of_mem_take hx)
    · show (isLow 122 && (isLow c && true)) = true
      rw [hc]
      rfl
def nosuch : Str := Str.ofString "extra"
/-- a name, and not that one -/
def nmB (w : Str) : Bool := nameB w && !decide (w = nosuch)
theorem nm_name {w : Str} (h : nmB w = true) : nameB w = true := (Bool.and_eq_true_iff.mp h).1
theorem nm_no {w : Str} (h : nmB w = true) : w ≠ nosuch := by
  have := (Bool.and_eq_true_iff.mp h).2
  simpa using this
theorem nm_of {w : Str} (h : nameB w = true) (n : w ≠ nosuch) : nmB w = true := by
  unfold nmB
  rw [h, decide_eq_false n]
  rfl
theorem ownW_nm : ∀ w ∈ ownW, nmB w = true := by decide +kernel
theorem nosuch_l : nosuch.cps.toList = [101, 120, 116, 114, 97] := by decide +kernel
theorem cand_nm {w : Str} {c : Nat} (h : nmB w = true) (hc : isLow c = true) : nmB (cand w c) = true := by
  refine nm_of (cand_name (nm_name h) hc) fun z => ?_
  have e : (cand w c).cps.toList = nosuch.cps.toList := by rw [z]
  rw [cand_l, nosuch_l] at e
  have e2 := congrArg (fun l => l.reverse[1]?) e
  simp at e2
/-- of more than there are in the list, unlike ones, one is not in it -/
theorem out_of {α : Type} [DecidableEq α] : ∀ (l m : List α), l.Nodup → (∀ x ∈ l, x ∈ m) → l.length ≤ m.length
  | [], m, _, _ => Nat.zero_le _
  | a :: l, m, hn, hs => by
    rw [List.nodup_cons] at hn
    have ha : a ∈ m := hs a List.mem_cons_self
    have ih := out_of l (m.erase a) hn.2 fun x hx => by
      have hx' := hs x (List.mem_cons_of_mem _ hx)
      have hne : x ≠ a := fun e => hn.1 (e ▸ hx)
      exact (List.mem_erase_of_ne hne).mpr hx'
    rw [List.length_erase_of_mem ha] at ih
    have hp : 0 < m.length := List.length_pos_of_mem ha
    show l.length + 1 ≤ m.length
    omega
theorem nodup_map_inj {α β : Type} {f : α → β} (hf : ∀ a b, f a = f b → a = b) : ∀ {l : List α}, l.Nodup → (l.map f).Nodup
  | [], _ => List.nodup_nil
  | a :: l, h => by
    rw [List.nodup_cons] at h
    rw [List.map_cons, List.nodup_cons]
    refine ⟨fun hm => ?_, nodup_map_inj hf h.2⟩
    obtain ⟨b, hb, e⟩ := List.mem_map.mp hm
    exact h.1 (hf _ _ e ▸ hb)
theorem abc_nodup : abc.cps.toList.Nodup := by decide +kernel
theorem fresh (w : Str) (ws : List Str) (h : ws.length < 26) : ∃ r rest, ((abc.cps.toList.map (cand w)).filter fun x => decide (x ∉ ws)) = r :: rest := by
  cases e : ((abc.cps.toList.map (cand w)).filter fun x => decide (x ∉ ws)) with
  | cons r rest => exact ⟨r, rest, rfl⟩
  | nil =>
    rw [List.filter_eq_nil_iff] at e
    have := out_of (abc.cps.toList.map (cand w)) ws (nodup_map_inj (fun a b => cand_inj) abc_nodup) fun x hx => by
      have := e x hx
      simpa using this
    rw [List.length_map, len_toList, abc_len] at this
    omega
theorem inV_str (x : Str) : ∀ ws : List Str, inV (.str x) (ws.map V.str) = decide (x ∈ ws)
  | [] => by simp [inV]
  | y :: r => by
    have ih := inV_str x r
    unfold inV at ih ⊢
    rw [List.map_cons, List.any_cons, ih]
    have e : eqV (.str y) (.str x) = decide (y = x) := by
      show (y == x) = decide (y = x)
      rw [Bool.beq_eq_decide_eq]
    rw [e]
    by_cases h : y = x
    · simp [h]
    · simp [h, Ne.symm h]
theorem flat_strs (ws : List Str) : (ws.map V.str).all flatV = true := by
  induction ws with
  | nil => rfl
  | cons a r ih => simpa [flatV] using ih
/-- signs put together -/
theorem join_l : ∀ cs : List Nat, (Txt.join (Str.ofString "") (cs.map fun c => (⟨#[c]⟩ : Str))).cps.toList = cs := fun cs => by
  rw [show Txt.join (Str.ofString "") (cs.map fun c => (⟨#[c]⟩ : Str)) = Str.join (Str.ofString "") (cs.map fun c => (⟨#[c]⟩ : Str)) from PySem.StrLaws.glued_eq_join _ _]
  have e0 : (Str.ofString "").cps.toList = [] := by decide +kernel
  induction cs with
  | nil => rfl
  | cons c r ih =>
    cases r with
    | nil => rfl
    | cons c2 r2 =>
      show ((⟨#[c]⟩ : Str) ++ Str.ofString "" ++ Str.join (Str.ofString "") ((c2 :: r2).map fun c => (⟨#[c]⟩ : Str))).cps.toList = c :: c2 :: r2
      rw [app_l, app_l, e0, ih]
      rfl
end K1
set_option Elab.async false
set_option linter.all false
set_option maxRecDepth 100000
set_option maxHeartbeats 4000000
namespace K1
open PySem PySem.Spec PyProof.Rows L2
/-! ### a def by its name, with its promise -/
structure Df (P : Program) (w : World) (K : PySem.W.Frag) (mg : Str → Option Value) (base : Heap) (CX : CXT) (x : Str) (k : Nat) (ps : List Str) (sp : Sp) : Prop where
  ex : ∃ (f : Addr) (fd : FuncData), FnOk P w K mg base CX k f fd ps sp ∧ mg x = some (.ref f) ∧ PySem.W.keepIn K (.ref f) = true ∧ Binds K fd ps []
theorem pe_df {X : Cx} {CX : CXT} {x : Str} {k j : Nat} {ps : List Str} {sp : Sp} {E : XK} {e : Expr} {es : List Expr} {t : TA} {p pos : Pos} (D : Df X.prog X.w X.K X.mg X.base CX x k ps sp) (hr : Room j X.A) (hx : Passes CX X E) (ha : PA X (e :: es) t)
    (hk : k ≤ j := by decide) (hg : Gl X x := by rfl) (hdb : (x == ("__debug__" : Str)) = false := by decide) (he : starEach (e :: es) X.env = (false, eval e X.env) :: starEach es X.env := by rfl) (hpl : (backTo pos (starEach es X.env)).any (·.1) = false := by rfl) :
    PE X (.Call (.Name x p) (e :: es) [] pos) (tCall sp [] E t) := by
  obtain ⟨f, fd, F, hm, kp, hb⟩ := D.ex
  exact pe_call F (hr.mono hk) hg hm kp hb .nil hx ha hdb he hpl
abbrev sPick' : Stmt := topS 35
abbrev sWords : Stmt := topS 36
structure Bt (mg : Str → Option Value) : Prop where
  list : mg "list" = none
  len : mg "len" = none
  range : mg "range" = none
def spPick : Sp := fun vs H Q _ => ∃ (d g c l : Addr) (t : Nat) (xs : List V), vs = [.ref d, .ref l] ∧ Gen d g c t H ∧ t < 2 ^ 30 ∧ H l = some (.lst xs) ∧ l ≠ g ∧ xs ≠ [] ∧ xs.length < 2 ^ 50 ∧
  ∀ (v : V) (H' : Hp), v ∈ xs → Gen d g c (t + 1) H' → Kp d g H H' → Q v H'
section
variable {P : Program} {w : World} {K : PySem.W.Frag} {mg : Str → Option Value} {base : Heap}
theorem scPick : FnScope ["_law_state", "_law_some"] ["_law_state", "_law_some"] (defScope sPick') := ⟨rfl, rfl, rfl, by decide +kernel, rfl, by decide +kernel, by decide +kernel⟩
theorem at_nat {xs : List V} {v : Int} (h0 : 0 ≤ v) (h1 : v < xs.length) : ∃ x, atI xs v = some x ∧ x ∈ xs := by
  obtain ⟨n, rfl⟩ := Int.eq_ofNat_of_zero_le h0
  have hn : n < xs.length := by omega
  exact ⟨xs[n], atI_nat (List.getElem?_eq_getElem hn), List.getElem_mem hn⟩
theorem ok_pick {f : Addr} {fd : FuncData} (F : Fun K "_law_pick" "_law_pick" sPick' f fd) (DT : Df P w K mg base CX0 "_law_take" 2 ["_law_state", "_law_size"] spTake) (T : Bt mg) : FnOk P w K mg base CX0 3 f fd ["_law_state", "_law_some"] spPick := by
  refine F.ok scPick (fun vs H Q E h => ?_) (fun cdv A outer s H vs Q E hr h => ?_)
  · obtain ⟨d, g, c, l, t, xs, rfl, _⟩ := h
    rfl
  · obtain ⟨d, g, c, l, t, xs, rfl, G, ht, hl, hlg, hne, hlen, k⟩ := h
    refine ⟨_, pss_one (ps_ret (pe_ix ix_list (pv 1) (pe_df DT hr pass0 (pa_cons (pv 0) (pa_cons (pe_callB call_len_seq (by rfl) T.len PySem.boot_len (pa_cons (pv 1) pa_nil)) pa_nil))) (fun _ _ => rfl))), ?_⟩
    have hpos : 0 < xs.length := List.length_pos_iff.mpr hne
    have hld : l ≠ d := by
      obtain ⟨_, _, _, _, _, e1, _⟩ := G
      exact ne_of hl e1 (by intro z; cases z)
    refine ⟨_, rfl, _, rfl, _, rfl, l, xs, rfl, .inl (SqL.of hl), d, g, c, t, (xs.length : Int), rfl, G, ht, by omega, by omega, fun v H' v0 v1 G' k' => ?_⟩
    obtain ⟨x, hx, hm⟩ := at_nat (xs := xs) v0 v1
    exact ⟨l, xs, v, x, rfl, rfl, SqL.of (k' l _ hld hlg hl), hx, k x H' hm G' k'⟩
abbrev nWords : List Str := ["_law_state", "_law_size", "_law_own", "_law_letters", "_law_found", "_law_k", "_law_word", "_law_long", "_law_j", "_law_one", "_law_letter"]
theorem scWords : FnScope nWords ["_law_state", "_law_size"] (defScope sWords) := ⟨rfl, rfl, rfl, by decide +kernel, rfl, by decide +kernel, by decide +kernel⟩
def spWords : Sp := fun vs H Q _ => ∃ (d g c : Addr) (t : Nat) (n : Nat), vs = [.ref d, .int n] ∧ Gen d g c t H ∧ n ≤ 25 ∧ t + 11 * n < 2 ^ 30 ∧
  ∀ (l : Addr) (ws : List Str) (H' : Hp), ws.length = n → ws.Nodup → (∀ w ∈ ws, nmB w = true) → H' l = some (.lst (ws.map V.str)) → H l = none → Gen d g c (t + 11 * n) H' → Kp d g H H' → Q (.ref l) H'
/-- the loop's state: v6 the word, ws the words found -/
def WS (d g c o F : Addr) (H0 : Hp) (n : Int) (ws : List Str) (tt : Nat) (v6 : Option V) (σ : L2.St) (H' : Hp) : Prop :=
  ∃ v5 v7 v8 v9 v10 : Option V, σ = [some (.ref d), some (.int n), some (.ref o), some (.str abc), some (.ref F), v5, v6, v7, v8, v9, v10] ∧ H' o = some (.lst (ownW.map V.str)) ∧ H' F = some (.lst (ws.map V.str)) ∧ Gen d g c tt H' ∧ Kp d g H0 H'
abbrev mk1 (c : Nat) : Str := ⟨#[c]⟩
theorem updN {H : Hp} {a b : Addr} {o : HO} (h : upd H a o b = none) : b ≠ a ∧ H b = none := by
  by_cases e : b = a
  · rw [e, upd_same] at h
    cases h
  · rw [upd_ne e] at h
    exact ⟨e, h⟩
theorem Gen.nd {d g c : Addr} {t : Nat} {H : Hp} (G : Gen d g c t H) {p : Addr} (h : H p = none) : p ≠ d ∧ p ≠ g := by
  obtain ⟨_, _, _, _, _, e1, e2, _⟩ := G
  exact ⟨(fun z => by rw [z, e1] at h; cases h), (fun z => by rw [z, e2] at h; cases h)⟩
theorem at_code {w : Str} {v : Int} (h0 : 0 ≤ v) (h1 : v < w.length) : ∃ x, atI w.cps.toList v = some x ∧ x ∈ w.cps.toList := by
  obtain ⟨n, rfl⟩ := Int.eq_ofNat_of_zero_le h0
  have hn : n < w.cps.toList.length := by rw [len_toList]; omega
  exact ⟨w.cps.toList[n], atI_nat (List.getElem?_eq_getElem hn), List.getElem_mem hn⟩
theorem Gen.nc {d g c : Addr} {t : Nat} {H : Hp} (G : Gen d g c t H) {p : Addr} (h : H p = none) : p ≠ c := by
  obtain ⟨_, _, _, _, _, _, _, e3, _⟩ := G
  exact fun z => by rw [z, e3] at h; cases h
theorem Gen.off {d g c p : Addr} {o : HO} {t : Nat} {H : Hp} (G : Gen d g c t H) (hd : p ≠ d) (hg : p ≠ g) (hc : p ≠ c) : Gen d g c t (upd H p o) := by
  obtain ⟨n, gs, cs, r, u, e1, e2, e3, e4⟩ := G
  exact ⟨n, gs, cs, r, u, by rw [upd_ne hd.symm]; exact e1, by rw [upd_ne hg.symm]; exact e2, by rw [upd_ne hc.symm]; exact e3, e4⟩
theorem sum_one : ∀ cs : List Nat, ((cs.map mk1).map (·.length)).sum = cs.length
  | [] => rfl
  | c :: r => by
    have ih := sum_one r
    rw [List.map_cons, List.map_cons, List.sum_cons, ih]
    show 1 + r.length = r.length + 1
    omega
theorem take_snoc {α : Type} : ∀ {l : List α} {i : Nat} {x : α}, l[i]? = some x → l.take (i + 1) = l.take i ++ [x]
  | [], i, x, h => by simp at h
  | a :: l, 0, x, h => by
    have e : a = x := by simpa using h
    rw [e]
    rfl
  | a :: l, i + 1, x, h => by
    have ih := take_snoc (l := l) (i := i) (x := x) (by simpa using h)
    rw [List.take_succ_cons, ih, List.take_succ_cons]
    rfl
theorem app_len (a b : Str) : (a ++ b).length = a.length + b.length := by
  rw [← len_toList, ← len_toList, ← len_toList, app_l, List.length_append]
theorem cutS_le (w : Str) : (cutS w none (some 6)).length ≤ w.length := by
  have h := cand_l w 0
  have h2 := congrArg List.length h
  rw [len_toList] at h2
  unfold cand at h2
  rw [app_len, app_len] at h2
  have e1 : (Str.ofString "z").length = 1 := by decide +kernel
  have e2 : (⟨#[0]⟩ : Str).length = 1 := rfl
  rw [e1, e2] at h2
  rw [List.length_append, List.length_take, len_toList] at h2
  simp only [List.length_cons, List.length_nil] at h2
  omega
theorem name_len {w : Str} (h : nameB w = true) : 1 ≤ w.length ∧ w.length ≤ 8 := by
  unfold nameB at h
  rw [Bool.and_eq_true, decide_eq_true_iff] at h
  exact h.1
theorem get_map {α β : Type} {f : α → β} {l : List α} {x : β} (h : x ∈ l.map f) : ∃ y, y ∈ l ∧ x = f y := by
  obtain ⟨y, h1, h2⟩ := List.mem_map.mp h
  exact ⟨y, h1, h2.symm⟩
theorem ok_words {f : Addr} {fd : FuncData} (F : Fun K "_law_words" "_law_words" sWords f fd) (DT : Df P w K mg base CX0 "_law_take" 2 ["_law_state", "_law_size"] spTake) (T : Bt mg) : FnOk P w K mg base CX0 3 f fd ["_law_state", "_law_size"] spWords := by
  refine F.ok scWords (fun vs H Q E h => ?_) (fun cdv A outer s H vs Q E hr h => ?_)
  · obtain ⟨d, g, c, t, n, rfl, _⟩ := h
    rfl
  · obtain ⟨d, g, c, t, n, rfl, G, hn, ht, k⟩ := h
    refine ⟨_, pss_cons (ps_set (i := 2) scWords.nd rfl (Or.inl rfl) pe_str)
      (pss_cons (ps_set (i := 2) scWords.nd rfl (Or.inl rfl) (pe_split (pe_op op_add_str (pv 2) pe_str) pe_str))
      (pss_cons (ps_asg (pe_tup (pa_cons pe_str (pa_cons (pe_lst pa_nil) pa_nil))) (pg_tup rfl (pgs_cons (pg_name (i := 3) scWords.nd rfl (Or.inr rfl)) (pgs_cons (pg_name (i := 4) scWords.nd rfl (Or.inr rfl)) pgs_nil))))
      (pss_cons (ps_for PassesOwn.never rfl (pi_range1 rfl T.range (pa_cons (pv 1) pa_nil)) (pg_name (i := 5) scWords.nd rfl (Or.inl rfl))
        (pss_cons (ps_set (i := 6) scWords.nd rfl (Or.inr rfl) (pe_ix ix_list (pv 2) (pe_df DT hr pass0 (pa_cons (pv 0) (pa_cons (pe_callB call_len_seq (by rfl) T.len PySem.boot_len (pa_cons (pv 2) pa_nil)) pa_nil))) (fun _ _ => rfl)))
        (C8.pss_cut (ps_if (pt_cmpR op_gt (pe_df DT hr pass0 (pa_cons (pv 0) (pa_cons pe_int pa_nil))) pe_int (nomark _))
          (pss_cons (ps_set (i := 7) scWords.nd rfl (Or.inl rfl) (pe_ix ix_list (pe_lst (pa_cons pe_int (pa_cons pe_int (pa_cons pe_int (pa_cons pe_int pa_nil))))) (pe_df DT hr pass0 (pa_cons (pv 0) (pa_cons pe_int pa_nil))) (fun _ _ => rfl)))
          (pss_one (ps_set (i := 6) scWords.nd rfl (Or.inr rfl) (pe_join pe_str
            (pe_lc (own := [("_law_j", 8)]) (g := gName 8) (tt := tYes) rfl scWords.nd (pi_range1 rfl T.range (pa_cons (pv 7) pa_nil)) (blkOk_by (N := nWords) (sc := defScope sWords) (by decide +kernel)) (fun _ _ _ _ _ => pg_name (i := 8) scWords.nd rfl (Or.inl rfl)) (fun _ _ _ _ _ => pts_nil)
              (fun _ _ _ _ _ => pe_ix ix_str (pv 3) (pe_df DT hr pass0 (pa_cons (pv 0) (pa_cons pe_int pa_nil))) (fun _ _ => rfl)))))))
          pss_nil)
        (C8.pss_cut (ps_if (pt_cmpR op_in_seq (pv 6) (pv 4) (by rfl))
          (pss_one (ps_set (i := 6) scWords.nd rfl (Or.inr rfl) (pe_ix ix_list (pe_lc (own := [("_law_one", 9)]) (g := gName 9) (tt := tTest (tOp (rIn K true) (tVar 9) (tVar 4))) rfl scWords.nd (pi_list (pe_lc (own := [("_law_letter", 10)]) (g := gName 10) (tt := tYes) rfl scWords.nd (pi_str (pv 3)) (blkOk_by (N := nWords) (sc := defScope sWords) (by decide +kernel)) (fun _ _ _ _ _ => pg_name (i := 10) scWords.nd rfl (Or.inl rfl)) (fun _ _ _ _ _ => pts_nil)
              (fun _ _ _ _ _ => pe_op op_add_str (pe_op op_add_str (pe_slice sl_str (pv 6) po_none (po_some pe_int)) pe_str) (pv 10)))) (blkOk_by (N := nWords) (sc := defScope sWords) (by decide +kernel)) (fun _ _ _ _ _ => pg_name (i := 9) scWords.nd rfl (Or.inl rfl)) (fun _ _ _ _ _ => pts_one (pt_cmpR op_notIn_seq (pv 9) (pv 4) (by rfl)))
              (fun _ _ _ _ _ => pv 9)) pe_int (fun _ _ => rfl))))
          pss_nil)
        (pss_one (ps_expr (pe_bm PySem.F.plainAttrs_list PySem.F.slot_list_append PySem.F.type_list_append mt_append (pv 4) (pa_cons (pv 6) pa_nil))))))))
      (pss_one (ps_ret (pv 4)))))), ?_⟩
    refine ⟨_, rfl, _, _, rfl, rfl, (by decide +kernel), ⟨_, rfl⟩, _, _, rfl, rfl, (by decide +kernel), (by decide +kernel), fun o ho => ?_⟩
    refine ⟨(by show 0 ≤ sizeLine; decide), fun F hF => ⟨(by show 2 ≤ sizeLine; decide), fun q hq => ⟨q, _, rfl, SqT.of upd_same, rfl, _, _, rfl, _, _, rfl, rfl, ?_⟩⟩⟩
    obtain ⟨nFo, hF'⟩ := updN hF
    obtain ⟨od, og⟩ := G.nd ho
    obtain ⟨Fd, Fg⟩ := G.nd hF'
    have sB : Same H (upd (upd (upd H o (.lst (ownW.map V.str))) F (.lst [])) q (.tup [.str abc, .ref F])) := Same.new (Same.new (Same.new (Same.refl H) ho) hF) hq
    have eo : (upd (upd (upd H o (.lst (ownW.map V.str))) F (.lst [])) q (.tup [.str abc, .ref F])) o = some (.lst (ownW.map V.str)) := Same.new (Same.refl _) hq _ _ (by rw [upd_ne (Ne.symm nFo), upd_same]; rfl)
    have eF : (upd (upd (upd H o (.lst (ownW.map V.str))) F (.lst [])) q (.tup [.str abc, .ref F])) F = some (.lst (([] : List Str).map V.str)) := Same.new (Same.refl _) hq _ _ upd_same
    have ol := ownW_len
    refine ⟨_, rfl, n, rfl, by omega, by omega, for_range (lo := 0) (n := n) (fun i σ H' => ∃ ws : List Str, ws.length = i ∧ ws.Nodup ∧ (∀ w ∈ ws, nmB w = true) ∧ ∃ v6, WS d g c o F H n ws (t + 11 * i) v6 σ H')
      ⟨[], rfl, List.nodup_nil, (fun _ z => absurd z (by simp)), none, none, none, none, none, none, rfl, eo, eF, G.same sB, Kp.of sB⟩ ?_ ?_⟩
    · rintro i σ H' hi ⟨ws, lw, nw, aw, v6, v5, v7, v8, v9, v10, rfl, e1, e2, G1, k1⟩
      -- the word is one of its own
      refine ⟨_, rfl, _, rfl, _, rfl, o, _, rfl, .inl (SqL.of e1), d, g, c, _, (((ownW.map V.str).length : Nat) : Int), rfl, G1, by omega, by rw [List.length_map]; omega, by rw [List.length_map]; omega, fun v H2 v0 v1 G2 k2 => ?_⟩
      obtain ⟨x, hx, hm⟩ := at_nat (xs := ownW.map V.str) v0 v1
      obtain ⟨w0, hw0, rfl⟩ := get_map hm
      refine ⟨o, _, v, _, rfl, rfl, SqL.of (k2 o _ od og e1), hx, ?_⟩
      -- .. or one of signs
      refine ⟨fun σ' H' => ∃ w1, nmB w1 = true ∧ WS d g c o F H n ws (t + 11 * i + 11) (some (.str w1)) σ' H', ?_, ?_⟩
      · refine ⟨_, rfl, d, g, c, _, 3, rfl, G2, by omega, by decide, by decide, fun u H3 u0 u1 G3 k3 => ⟨_, _, rfl, rfl, _, rfl, ?_⟩⟩
        have e13 := k3 o _ od og (k2 o _ od og e1)
        have e23 := k3 F _ Fd Fg (k2 F _ Fd Fg e2)
        have k13 := (k1.trans k2).trans k3
        refine ite2 (fun _ => ?_) (fun _ => ?_)
        · refine ⟨(by show 4 ≤ sizeLine; decide), fun p hp => ⟨_, rfl, d, g, c, _, 4, rfl, G3.new hp, by omega, by decide, by decide, fun u2 H4 u20 u21 G4 k4 => ?_⟩⟩
          obtain ⟨pd, pg⟩ := G3.nd hp
          have s3 := Same.new (o := .lst [.int 1, .int 2, .int 8, .int 3]) (Same.refl H3) hp
          obtain ⟨y, hy, my⟩ := at_nat (xs := [V.int 1, .int 2, .int 8, .int 3]) u20 u21
          obtain ⟨lg, hlg, rfl⟩ : ∃ lg : Nat, (1 ≤ lg ∧ lg ≤ 8 ∧ lg ≠ 5) ∧ y = .int lg := by
            simp only [List.mem_cons, List.not_mem_nil, or_false] at my
            rcases my with rfl | rfl | rfl | rfl
            · exact ⟨1, by decide, rfl⟩
            · exact ⟨2, by decide, rfl⟩
            · exact ⟨8, by decide, rfl⟩
            · exact ⟨3, by decide, rfl⟩
          have e14 := k4 o _ od og (s3 _ _ e13)
          have e24 := k4 F _ Fd Fg (s3 _ _ e23)
          have k14 := (k13.trans (Kp.of s3)).trans k4
          refine ⟨p, _, u2, _, rfl, rfl, SqL.of (k4 p _ pd pg upd_same), hy, ⟨_, rfl⟩, _, rfl, lg, rfl, by omega, by omega, fun D hD => lc_range (lo := 0) (n := lg) (fun i5 H5 => ∃ cs : List Nat, cs.length = i5 ∧ (∀ c ∈ cs, isLow c = true) ∧ H5 D = some (.lst ((cs.map mk1).map V.str)) ∧
              H5 o = some (.lst (ownW.map V.str)) ∧ H5 F = some (.lst (ws.map V.str)) ∧ Gen d g c (t + 11 * i + 3 + i5) H5 ∧ Kp d g H H5) ?_ ?_ ?_⟩
          · have s4 := Same.new (o := .lst []) (Same.refl H4) hD
            exact ⟨[], rfl, (fun _ z => absurd z (by simp)), upd_same, s4 _ _ e14, s4 _ _ e24, G4.same s4, k14.trans (Kp.of s4)⟩
          · rintro i5 H5 hi5 ⟨cs, lc, ac, eD, e15, e25, G5, k5⟩
            obtain ⟨nDo, hD'⟩ : D ≠ o ∧ D ≠ F := ⟨(fun z => by rw [z, e14] at hD; cases hD), (fun z => by rw [z, e24] at hD; cases hD)⟩
            obtain ⟨Dd, Dg⟩ := G4.nd hD
            refine ⟨rfl, _, rfl, _, rfl, d, g, c, _, 26, rfl, G5, by omega, by decide, by decide, fun u6 H6 u60 u61 G6 k6 => ?_⟩
            obtain ⟨ch, hch, mch⟩ := at_code (w := abc) u60 (by rw [abc_len]; exact u61)
            refine ⟨abc, u6, ch, rfl, rfl, (by decide +kernel), hch, _, k6 D _ Dd Dg eD, ?_, cs ++ [ch], ?_, ?_, ?_, ?_, ?_, ?_, ?_⟩
            · rw [List.length_map, List.length_map, sizeLine_eq]
              omega
            · rw [List.length_append, lc]
              rfl
            · intro x hx
              rcases List.mem_append.mp hx with h | h
              · exact ac x h
              · rw [List.mem_singleton.mp h]
                exact abc_low ch mch
            · rw [upd_same, List.map_append, List.map_append]
              rfl
            · rw [upd_ne (Ne.symm nDo)]
              exact k6 o _ od og e15
            · rw [upd_ne (Ne.symm hD')]
              exact k6 F _ Fd Fg e25
            · exact (G6.off Dd Dg (G4.nc hD)).mono (by omega)
            · exact (k5.trans k6).upd (.inl (G.free G4 k14 hD))
          · rintro H5 ⟨cs, lc, ac, eD, e15, e25, G5, k5⟩
            refine ⟨_, D, cs.map mk1, rfl, rfl, .inl (SqL.of eD), ?_, Txt.join (Str.ofString "") (cs.map mk1), ?_, _, _, _, _, _, rfl, e15, e25, G5.mono (by omega), k5⟩
            · rw [sum_one, List.length_map, show (Str.ofString "").length = 0 by decide +kernel]
              omega
            · have e := join_l cs
              have el := len_toList (Txt.join (Str.ofString "") (cs.map mk1))
              refine nm_of ?_ fun z => ?_
              · unfold nameB
                rw [e] at el ⊢
                rw [Bool.and_eq_true, decide_eq_true_iff, List.all_eq_true, ← el]
                exact ⟨by omega, ac⟩
              · rw [z, nosuch_l] at e
                have := congrArg List.length e
                simp only [List.length_cons, List.length_nil] at this
                omega
        · exact ⟨w0, ownW_nm w0 hw0, _, _, _, _, _, rfl, e13, e23, G3.mono (by omega), k13⟩
      · rintro σ' H5 ⟨w1, hw1, b5, b7, b8, b9, b10, rfl, e15, e25, G5, k5⟩
        refine ⟨fun σ' H' => ∃ w2, nmB w2 = true ∧ w2 ∉ ws ∧ WS d g c o F H n ws (t + 11 * i + 11) (some (.str w2)) σ' H', ?_, ?_⟩
        · refine ⟨_, rfl, _, rfl, F, _, rfl, .inl (SqL.of e25), rfl, flat_strs ws, _, rfl, ?_⟩
          refine ite2 (fun hb => ?_) (fun hb => ?_)
          · refine ⟨_, rfl, abc, rfl, fun D hD => lc_it walk_str (fun i6 H6 => Same H5 H6 ∧ H6 D = some (.lst (((abc.cps.toList.take i6).map (cand w1)).map V.str))) ⟨Same.new (Same.refl H5) hD, upd_same⟩ (fun _ _ _ _ => trivial) ?_ ?_⟩
            · rintro i6 x H6 H7 hi6 ⟨s6, eD⟩ ⟨rfl, ch, hch, rfl⟩
              have hch' : abc.cps.toList[i6]? = some ch := by rw [Array.getElem?_toList]; exact hch
              have hlen : i6 < 26 := by
                have := (List.getElem?_eq_some_iff.mp hch').1
                rw [len_toList, abc_len] at this
                exact this
              have nl := name_len (nm_name hw1)
              have hc1 : (cutS w1 none (some 6)).length ≤ 8 := by
                have := cutS_le w1
                omega
              have hcl : (cutS w1 none (some 6) ++ Str.ofString "z").length ≤ 9 := by
                rw [app_len, show (Str.ofString "z").length = 1 by decide +kernel]
                omega
              refine ⟨rfl, _, rfl, 6, rfl, w1, rfl, (by rw [sizeLine_eq]; omega), _, _, rfl, rfl, (by rw [sizeLine_eq, show (Str.ofString "z").length = 1 by decide +kernel]; omega), _, rfl, _, _, rfl, rfl, (by rw [sizeLine_eq, show (⟨#[ch]⟩ : Str).length = 1 from rfl]; omega), _, eD, ?_, ?_, ?_⟩
              · rw [List.length_map, List.length_map, List.length_take, sizeLine_eq]
                omega
              · exact fun b o e => by
                  rw [upd_ne (ne_of_none e hD)]
                  exact s6 b o e
              · rw [upd_same, take_snoc hch', List.map_append, List.map_append]
                rfl
            · rintro H6 ⟨s6, eD⟩
              rw [show abc.cps.size = abc.cps.toList.length from rfl, List.take_length] at eD
              refine ⟨D, rfl, ⟨_, SqL.of eD⟩, fun D2 hD2 => lc_list (K := K) (a := D) (xs := (abc.cps.toList.map (cand w1)).map V.str) (fun i7 H7 => Same H6 H7 ∧ H7 D2 = some (.lst ((((abc.cps.toList.map (cand w1)).take i7).filter fun x => decide (x ∉ ws)).map V.str)))
                ⟨Same.new (Same.refl H6) hD2, upd_same⟩ (fun i H7 _ z => SqL.of (z.1 _ _ eD)) ?_ ?_⟩
              · rintro i7 x H7 hi7 ⟨s7, eD2⟩
                rw [List.getElem?_map] at hi7
                obtain ⟨cw, hcw, rfl⟩ : ∃ cw, (abc.cps.toList.map (cand w1))[i7]? = some cw ∧ x = .str cw := by
                  cases e : (abc.cps.toList.map (cand w1))[i7]? with
                  | none => rw [e] at hi7; cases hi7
                  | some z => rw [e] at hi7; exact ⟨z, rfl, (Option.some.inj hi7).symm⟩
                have hl7 : i7 < 26 := by
                  have := (List.getElem?_eq_some_iff.mp hcw).1
                  rw [List.length_map, len_toList, abc_len] at this
                  exact this
                refine ⟨rfl, _, rfl, _, rfl, F, _, rfl, .inl (SqL.of (s7 _ _ (s6 _ _ e25))), rfl, flat_strs ws, _, rfl, ?_⟩
                refine ite2 (fun hb2 => ?_) (fun hb2 => ?_)
                · have hb3 : cw ∉ ws := by
                    have h2 : (!inV (.str cw) (ws.map V.str)) = true := hb2
                    rw [inV_str] at h2
                    simpa using h2
                  refine ⟨_, rfl, _, eD2, ?_, ?_, ?_⟩
                  · rw [List.length_map, sizeLine_eq]
                    have := List.length_filter_le (fun x => decide (x ∉ ws)) ((abc.cps.toList.map (cand w1)).take i7)
                    rw [List.length_take] at this
                    omega
                  · exact fun b o e => by
                      rw [upd_ne (ne_of_none e hD2)]
                      exact s7 b o e
                  · rw [upd_same, take_snoc hcw, List.filter_append, List.map_append]
                    simp [hb3]
                · have hb3 : cw ∈ ws := by
                    have h2 : ¬ (!inV (.str cw) (ws.map V.str)) = true := hb2
                    rw [inV_str] at h2
                    simpa using h2
                  refine ⟨s7, ?_⟩
                  rw [eD2, take_snoc hcw, List.filter_append]
                  simp [hb3]
              · rintro H7 ⟨s7, eD2⟩
                rw [List.length_map, List.take_length] at eD2
                obtain ⟨r, rest, hr⟩ := fresh w1 ws (by omega)
                have hin : r ∈ ((abc.cps.toList.map (cand w1)).filter fun x => decide (x ∉ ws)) := by
                  rw [hr]
                  exact List.mem_cons_self
                rw [List.mem_filter] at hin
                obtain ⟨h1, h2⟩ := hin
                obtain ⟨ch, hch, rfl⟩ := List.mem_map.mp h1
                rw [hr] at eD2
                have s67 : Same H5 H7 := s6.trans s7
                refine ⟨D2, _, 0, _, rfl, rfl, SqL.of eD2, atI_nat (j := 0) rfl, cand w1 ch, cand_nm hw1 (abc_low ch hch), by simpa using h2, _, _, _, _, _, rfl, s67 _ _ e15, s67 _ _ e25, G5.same s67, k5.trans (Kp.of s67)⟩
          · refine ⟨w1, hw1, ?_, _, _, _, _, _, rfl, e15, e25, G5, k5⟩
            have h2 : ¬ (inV (.str w1) (ws.map V.str)) = true := hb
            rw [inV_str] at h2
            simpa using h2
        · rintro σ' H6 ⟨w2, hw2, nin, c5, c7, c8, c9, c10, rfl, e16, e26, G6, k6⟩
          obtain ⟨Gd, Gg⟩ := G.nd hF'
          refine ⟨_, rfl, .inl ⟨rfl, _, SqL.of e26⟩, _, rfl, F, _, _, rfl, rfl, e26, (by rw [List.length_map, sizeLine_eq]; omega), ws ++ [w2], ?_, ?_, ?_, _, _, _, _, _, _, rfl, ?_, ?_, ?_, ?_⟩
          · rw [List.length_append, lw]
            rfl
          · rw [List.nodup_append]
            refine ⟨nw, by simp, fun a ha b hb => ?_⟩
            rw [List.mem_singleton.mp hb]
            exact fun e => nin (e ▸ ha)
          · intro x hx
            rcases List.mem_append.mp hx with h | h
            · exact aw x h
            · rw [List.mem_singleton.mp h]
              exact hw2
          · rw [upd_ne (Ne.symm nFo)]
            exact e16
          · rw [upd_same, List.map_append]
            rfl
          · exact (G6.off Fd Fg (G.nc hF')).mono (by omega)
          · exact k6.upd (.inl hF')
    · rintro σ H' ⟨ws, lw, nw, aw, v6, v5, v7, v8, v9, v10, rfl, e1, e2, G1, k1⟩
      exact ⟨_, rfl, k F ws H' lw nw aw e2 hF' G1 k1⟩
end
end K1
set_option Elab.async false
set_option linter.all false
set_option maxRecDepth 100000
set_option maxHeartbeats 4000000
namespace K1
open PySem PySem.Spec PyProof.Rows L2
/-! ### data that stands in the heap -/
mutual
theorem dp_same {K : PySem.W.Frag} {H H' : Hp} (s : Same H H') : ∀ (d : PyData) (v : V), Dp K H v d → Dp K H' v d
  | .none, _, .non => .non
  | .bool _, _, .bl b => .bl b
  | .int _, _, .int i => .int i
  | .str _, _, .str x => .str x
  | .list ds, _, .lst h a => .lst (s.seq h) (dp_sameAll s ds _ a)
  | .tuple ds, _, .tup h a => .tup (by
      rcases h with (h | ⟨o, h⟩) | h
      · exact .inl (.inl (s _ _ h))
      · exact .inl (.inr ⟨o, s _ _ h⟩)
      · exact .inr h) (dp_sameAll s ds _ a)
theorem dp_sameAll {K : PySem.W.Frag} {H H' : Hp} (s : Same H H') : ∀ (ds : List PyData) (vs : List V), DpAll K H vs ds → DpAll K H' vs ds
  | [], _, .nil => .nil
  | d :: ds, _, .cons h t => .cons (dp_same s d _ h) (dp_sameAll s ds _ t)
end
theorem dpAll_len {K : PySem.W.Frag} {H : Hp} : ∀ {vs : List V} {ds : List PyData}, DpAll K H vs ds → vs.length = ds.length
  | _, _, .nil => rfl
  | _, _, .cons _ t => by rw [List.length_cons, List.length_cons, dpAll_len t]
theorem dpAll_at {K : PySem.W.Frag} {H : Hp} : ∀ {vs : List V} {ds : List PyData} {i : Nat} {v : V}, DpAll K H vs ds → vs[i]? = some v → ∃ d, ds[i]? = some d ∧ Dp K H v d
  | _, _, i, v, .nil, h => by simp at h
  | _, _, 0, v, .cons (d := d) h _, e => ⟨d, rfl, by
      have e' := Option.some.inj e
      rw [← e']
      exact h⟩
  | _, _, i + 1, v, .cons _ t, e => dpAll_at (i := i) t e
/-- data, or some dict at the top -/
inductive Dm (K : PySem.W.Frag) (H : Hp) : V → PyData → Prop where
  | dat {v : V} {d : PyData} (h : Dp K H v d) : Dm K H v d
  | dic {a : Addr} {kvs : List (Key × V)} (h : H a = some (.dK kvs)) : Dm K H (.ref a) (.dict [])
theorem Dm.same {K : PySem.W.Frag} {H H' : Hp} {v : V} {d : PyData} (s : Same H H') (h : Dm K H v d) : Dm K H' v d := by
  cases h with
  | dat h => exact .dat (dp_same s _ _ h)
  | dic h => exact .dic (s _ _ h)
def tyOf : PyData → String
  | .none => "NoneType" | .bool _ => "bool" | .int _ => "int" | .str _ => "str" | .list _ => "list" | .tuple _ => "tuple" | .dict _ => "dict"
theorem tyx_list {K : PySem.W.Frag} {H : Hp} {a : Addr} {xs : List V} (h : SqL K H a xs) : TyX K H (.ref a) (.type "list") := by
  rcases h with (h | ⟨o, h⟩) | ⟨o, its, n, h, hc, _⟩
  · exact .base (.lst h)
  · exact .base (.frz h)
  · exact .kList h hc
theorem tyx_tup {K : PySem.W.Frag} {H : Hp} {a : Addr} {xs : List V} (h : SqT K H a xs) : TyX K H (.ref a) (.type "tuple") := by
  rcases h with (h | ⟨o, h⟩) | ⟨o, its, n, h, hc, _⟩
  · exact .base (.tup h)
  · exact .fTuple h
  · exact .kTuple h hc
theorem tyx_of {K : PySem.W.Frag} {H : Hp} {v : V} {d : PyData} (h : Dm K H v d) : TyX K H v (.type (tyOf d)) := by
  cases h with
  | dat h =>
    cases h with
    | non => exact .base .non
    | bl b => exact .base (.bl b)
    | int i => exact .base (.int i)
    | str s => exact .base (.str s)
    | lst h _ => exact tyx_list h
    | tup h _ => exact tyx_tup h
  | dic h => exact .base (.dK h)
def isInt : PyData → Bool | .int _ => true | .bool _ => true | _ => false
def isBool : PyData → Bool | .bool _ => true | _ => false
def isStr : PyData → Bool | .str _ => true | _ => false
def isTup : PyData → Bool | .tuple _ => true | _ => false
def isLst : PyData → Bool | .list _ => true | _ => false
theorem kit_int {K : PySem.W.Frag} : ∀ d : PyData, PySem.W.kitOne K (.type (tyOf d)) (.type "int") = some (isInt d)
  | .none => kit_ty (a := "NoneType") (b := "int") (r := false) (by decide +kernel)
  | .bool _ => kit_ty (a := "bool") (b := "int") (r := true) (by decide +kernel)
  | .int _ => kit_ty (a := "int") (b := "int") (r := true) (by decide +kernel)
  | .str _ => kit_ty (a := "str") (b := "int") (r := false) (by decide +kernel)
  | .list _ => kit_ty (a := "list") (b := "int") (r := false) (by decide +kernel)
  | .tuple _ => kit_ty (a := "tuple") (b := "int") (r := false) (by decide +kernel)
  | .dict _ => kit_ty (a := "dict") (b := "int") (r := false) (by decide +kernel)
theorem kit_bool {K : PySem.W.Frag} : ∀ d : PyData, PySem.W.kitOne K (.type (tyOf d)) (.type "bool") = some (isBool d)
  | .none => kit_ty (a := "NoneType") (b := "bool") (r := false) (by decide +kernel)
  | .bool _ => kit_ty (a := "bool") (b := "bool") (r := true) (by decide +kernel)
  | .int _ => kit_ty (a := "int") (b := "bool") (r := false) (by decide +kernel)
  | .str _ => kit_ty (a := "str") (b := "bool") (r := false) (by decide +kernel)
  | .list _ => kit_ty (a := "list") (b := "bool") (r := false) (by decide +kernel)
  | .tuple _ => kit_ty (a := "tuple") (b := "bool") (r := false) (by decide +kernel)
  | .dict _ => kit_ty (a := "dict") (b := "bool") (r := false) (by decide +kernel)
theorem kit_str {K : PySem.W.Frag} : ∀ d : PyData, PySem.W.kitOne K (.type (tyOf d)) (.type "str") = some (isStr d)
  | .none => kit_ty (a := "NoneType") (b := "str") (r := false) (by decide +kernel)
  | .bool _ => kit_ty (a := "bool") (b := "str") (r := false) (by decide +kernel)
  | .int _ => kit_ty (a := "int") (b := "str") (r := false) (by decide +kernel)
  | .str _ => kit_ty (a := "str") (b := "str") (r := true) (by decide +kernel)
  | .list _ => kit_ty (a := "list") (b := "str") (r := false) (by decide +kernel)
  | .tuple _ => kit_ty (a := "tuple") (b := "str") (r := false) (by decide +kernel)
  | .dict _ => kit_ty (a := "dict") (b := "str") (r := false) (by decide +kernel)
theorem kit_tup {K : PySem.W.Frag} : ∀ d : PyData, PySem.W.kitOne K (.type (tyOf d)) (.type "tuple") = some (isTup d)
  | .none => kit_ty (a := "NoneType") (b := "tuple") (r := false) (by decide +kernel)
  | .bool _ => kit_ty (a := "bool") (b := "tuple") (r := false) (by decide +kernel)
  | .int _ => kit_ty (a := "int") (b := "tuple") (r := false) (by decide +kernel)
  | .str _ => kit_ty (a := "str") (b := "tuple") (r := false) (by decide +kernel)
  | .list _ => kit_ty (a := "list") (b := "tuple") (r := false) (by decide +kernel)
  | .tuple _ => kit_ty (a := "tuple") (b := "tuple") (r := true) (by decide +kernel)
  | .dict _ => kit_ty (a := "dict") (b := "tuple") (r := false) (by decide +kernel)
theorem kit_lst {K : PySem.W.Frag} : ∀ d : PyData, PySem.W.kitOne K (.type (tyOf d)) (.type "list") = some (isLst d)
  | .none => kit_ty (a := "NoneType") (b := "list") (r := false) (by decide +kernel)
  | .bool _ => kit_ty (a := "bool") (b := "list") (r := false) (by decide +kernel)
  | .int _ => kit_ty (a := "int") (b := "list") (r := false) (by decide +kernel)
  | .str _ => kit_ty (a := "str") (b := "list") (r := false) (by decide +kernel)
  | .list _ => kit_ty (a := "list") (b := "list") (r := true) (by decide +kernel)
  | .tuple _ => kit_ty (a := "tuple") (b := "list") (r := false) (by decide +kernel)
  | .dict _ => kit_ty (a := "dict") (b := "list") (r := false) (by decide +kernel)
theorem kit_lt {K : PySem.W.Frag} (d : PyData) : PySem.W.kitAny K (.type (tyOf d)) [.type "list", .type "tuple"] = some (isLst d || isTup d) := by
  refine kitAny_cons (kit_lst d) (fun h => ?_) fun h => by rw [h]; rfl
  refine kitAny_cons (kit_tup d) (fun h2 => ?_) fun h2 => by rw [h2, Bool.or_true]
  rw [h, h2]
  exact kitAny_nil
/-! ### the data's own words -/
mutual
def fineD : PyData → Bool
  | .str s => decide (s.length ≤ 1000)
  | .list ds => decide (ds.length ≤ 1000) && fineAll ds
  | .tuple ds => decide (ds.length ≤ 1000) && fineAll ds
  | _ => true
def fineAll : List PyData → Bool
  | [] => true
  | d :: ds => fineD d && fineAll ds
end
theorem fine_at : ∀ {ds : List PyData} {i : Nat} {d : PyData}, fineAll ds = true → ds[i]? = some d → fineD d = true
  | [], i, d, _, h => by simp at h
  | a :: r, 0, d, hf, h => by
    have e := Option.some.inj h
    rw [← e]
    exact (Bool.and_eq_true_iff.mp hf).1
  | a :: r, i + 1, d, hf, h => fine_at (i := i) (Bool.and_eq_true_iff.mp hf).2 h
theorem fine_str {s : Str} (h : fineD (.str s) = true) : s.length ≤ 1000 := of_decide_eq_true h
theorem fine_tup {ds : List PyData} (h : fineD (.tuple ds) = true) : ds.length ≤ 1000 ∧ fineAll ds = true := by
  have h' := Bool.and_eq_true_iff.mp h
  exact ⟨of_decide_eq_true h'.1, h'.2⟩
theorem fine_lst {ds : List PyData} (h : fineD (.list ds) = true) : ds.length ≤ 1000 ∧ fineAll ds = true := by
  have h' := Bool.and_eq_true_iff.mp h
  exact ⟨of_decide_eq_true h'.1, h'.2⟩

def okD : PyData → Bool
  | .dict _ => true
  | d => fineD d && SeqAt.shaped d
theorem ok_str {s : Str} (h : okD (.str s) = true) : s.length ≤ 1000 := fine_str (Bool.and_eq_true_iff.mp h).1
theorem ok_tup {ds : List PyData} (h : okD (.tuple ds) = true) : ds.length ≤ 1000 ∧ fineAll ds = true ∧ SeqAt.shaped (.tuple ds) = true := by
  have h' := Bool.and_eq_true_iff.mp h
  exact ⟨(fine_tup h'.1).1, (fine_tup h'.1).2, h'.2⟩
theorem ok_lst {ds : List PyData} (h : okD (.list ds) = true) : ds.length ≤ 1000 ∧ fineAll ds = true ∧ SeqAt.shaped (.list ds) = true := by
  have h' := Bool.and_eq_true_iff.mp h
  exact ⟨(fine_lst h'.1).1, (fine_lst h'.1).2, h'.2⟩
theorem lay_at : ∀ {ds : List PyData} {i : Nat} {d : PyData}, PyData.canLayAll0 ds = true → ds[i]? = some d → PyData.canLay0 d = true
  | [], i, d, _, h => by simp at h
  | a :: r, 0, d, hf, h => by
    have e := Option.some.inj h
    rw [← e]
    have hf' : PyData.canLay0 a = true ∧ PyData.canLayAll0 r = true := by simpa [PyData.canLayAll0] using hf
    exact hf'.1
  | a :: r, i + 1, d, hf, h => by
    have hf' : PyData.canLay0 a = true ∧ PyData.canLayAll0 r = true := by simpa [PyData.canLayAll0] using hf
    exact lay_at (i := i) hf'.2 h
theorem dep_at : ∀ {ds : List PyData} {i : Nat} {d : PyData}, ds[i]? = some d → PyData.depth d ≤ PyData.depthAll ds
  | [], i, d, h => by simp at h
  | a :: r, 0, d, h => by
    have e := Option.some.inj h
    rw [← e]
    simp only [PyData.depthAll]
    exact Nat.le_max_left _ _
  | a :: r, i + 1, d, h => by
    have := dep_at (ds := r) (i := i) h
    simp only [PyData.depthAll]
    exact Nat.le_trans this (Nat.le_max_right _ _)
theorem nodict {d : PyData} (h : PyData.canLay0 d = true) : ∀ kvs, d ≠ .dict kvs := by
  rintro kvs rfl
  simp [PyData.canLay0] at h
theorem ok_of {d : PyData} (h : PyData.canLay0 d = true) (hf : fineD d = true) (hd : PyData.depth d ≤ 64) : okD d = true := by
  have hs : SeqAt.shaped d = true := by
    unfold SeqAt.shaped
    rw [h, Bool.true_and, decide_eq_true_iff]
    exact hd
  cases d <;> first | rfl | (show (fineD _ && SeqAt.shaped _) = true; rw [hf, hs]; rfl)
theorem tup_at {ds : List PyData} {i : Nat} {d : PyData} (h : okD (.tuple ds) = true) (hi : ds[i]? = some d) : okD d = true ∧ SeqAt.shaped d = true := by
  obtain ⟨_, h2, h3⟩ := ok_tup h
  have hl : PyData.canLayAll0 ds = true := by simpa [PyData.canLay0] using SeqAt.canLay_of_shaped h3
  have hd : PyData.depth d ≤ 64 := by
    have a := dep_at hi
    have b := SeqAt.depth_of_shaped h3
    simp only [PyData.depth] at b
    omega
  have l := lay_at hl hi
  exact ⟨ok_of l (fine_at h2 hi) hd, by unfold SeqAt.shaped; rw [l, Bool.true_and, decide_eq_true_iff]; exact hd⟩
theorem lst_at {ds : List PyData} {i : Nat} {d : PyData} (h : okD (.list ds) = true) (hi : ds[i]? = some d) : okD d = true ∧ SeqAt.shaped d = true := by
  obtain ⟨_, h2, h3⟩ := ok_lst h
  have hl : PyData.canLayAll0 ds = true := by simpa [PyData.canLay0] using SeqAt.canLay_of_shaped h3
  have hd : PyData.depth d ≤ 64 := by
    have a := dep_at hi
    have b := SeqAt.depth_of_shaped h3
    simp only [PyData.depth] at b
    omega
  have l := lay_at hl hi
  exact ⟨ok_of l (fine_at h2 hi) hd, by unfold SeqAt.shaped; rw [l, Bool.true_and, decide_eq_true_iff]; exact hd⟩
def numD : PyData → Bool | .int _ => true | _ => false
def listD (d : PyData) : Bool := isLst d || isTup d
def nameD : PyData → Bool | .str s => nameB s | _ => false
def kindsD (k : PyData) : Bool := PyData.eqv (.str "pair") k || (PyData.eqv (.str "row") k || (PyData.eqv (.str "heap") k || false))
def signD : PyData → Bool
  | .tuple [n, k, .int m] => nameD n && if PyData.eqv k (.str "plain") then decide (0 ≤ m ∧ m ≤ 4) else kindsD k && decide (m = 2)
  | _ => false
theorem one_more {K : PySem.W.Frag} {H : Hp} {xs : List V} {d : PyData} {ds : List PyData} (h : DpAll K H xs (d :: ds)) : ∃ x r, xs = x :: r ∧ Dp K H x d ∧ DpAll K H r ds := by
  cases h with
  | cons h t => exact ⟨_, _, rfl, h, t⟩
theorem no_more {K : PySem.W.Frag} {H : Hp} {xs : List V} (h : DpAll K H xs []) : xs = [] := by
  cases h with
  | nil => rfl
theorem three {K : PySem.W.Frag} {H : Hp} {xs : List V} {ds : List PyData} (h : DpAll K H xs ds) (hl : ds.length = 3) : ∃ a b c x y z, ds = [a, b, c] ∧ xs = [x, y, z] ∧ Dp K H x a ∧ Dp K H y b ∧ Dp K H z c := by
  match ds, hl with
  | [a, b, c], _ =>
    obtain ⟨x, r, rfl, h1, t1⟩ := one_more h
    obtain ⟨y, r, rfl, h2, t2⟩ := one_more t1
    obtain ⟨z, r, rfl, h3, t3⟩ := one_more t2
    cases no_more t3
    exact ⟨a, b, c, x, y, z, rfl, rfl, h1, h2, h3⟩
theorem signD_len : ∀ {ds : List PyData}, ds.length ≠ 3 → signD (.tuple ds) = false
  | [], _ => rfl
  | [_], _ => rfl
  | [_, _], _ => rfl
  | [_, _, _], h => absurd rfl h
  | a :: b :: c :: d :: r, _ => by
    cases c <;> rfl
theorem signD_name {n k m : PyData} (h : nameD n = false) : signD (.tuple [n, k, m]) = false := by
  cases m with
  | int i =>
    show (nameD n && _) = false
    rw [h, Bool.false_and]
  | _ => rfl
theorem signD_num {n k m : PyData} (h : numD m = false) : signD (.tuple [n, k, m]) = false := by
  cases m with
  | int i => cases h
  | _ => rfl
theorem signD_plain {n k : PyData} {m : Int} (h : nameD n = true) (hp : PyData.eqv k (.str "plain") = true) : signD (.tuple [n, k, .int m]) = decide (0 ≤ m ∧ m ≤ 4) := by
  show (nameD n && if PyData.eqv k (.str "plain") = true then decide (0 ≤ m ∧ m ≤ 4) else kindsD k && decide (m = 2)) = _
  rw [h, Bool.true_and, if_pos hp]
theorem signD_kind {n k : PyData} {m : Int} (h : nameD n = true) (hp : ¬ PyData.eqv k (.str "plain") = true) : signD (.tuple [n, k, .int m]) = (kindsD k && decide (m = 2)) := by
  show (nameD n && if PyData.eqv k (.str "plain") = true then decide (0 ≤ m ∧ m ≤ 4) else kindsD k && decide (m = 2)) = _
  rw [h, Bool.true_and, if_neg hp]
/-- what the text's constants and the built-ins are -/
structure Cs (mg : Str → Option Value) : Prop where
  small : ∃ t, mg "SMALL" = some (.str abc t)
  nlet : ∃ t, mg "NAME_LETTERS" = some (.int 8 t)
  isi : mg "isinstance" = none
  int : mg "int" = none
  bool : mg "bool" = none
  str : mg "str" = none
  list : mg "list" = none
  tuple : mg "tuple" = none
  len : mg "len" = none
  all : mg "all" = none
  range : mg "range" = none
  repr : mg "repr" = none
  dict : mg "dict" = none
abbrev sSmall : Stmt := topS 9
abbrev sName : Stmt := topS 10
def spP (K : PySem.W.Frag) (f : PyData → Bool) : Sp := fun vs H Q _ => ∃ (v : V) (d : PyData), vs = [v] ∧ Dm K H v d ∧ okD d = true ∧ ∀ H', Same H H' → Q (.bl (f d)) H'
def spSmall : Sp := fun vs H Q _ => ∃ (s : Str), vs = [.str s] ∧ s.length ≤ 100000 ∧ ∀ H', Same H H' → Q (.bl (s.cps.toList.all isLow)) H'
section
variable {P : Program} {w : World} {K : PySem.W.Frag} {mg : Str → Option Value} {base : Heap}
theorem mem_abc (c : Nat) : decide (c ∈ abc.cps.toList) = isLow c := by
  rw [abc_l]
  unfold isLow
  by_cases h : 97 ≤ c ∧ c ≤ 122
  · rw [decide_eq_true h, decide_eq_true_iff, List.mem_map]
    exact ⟨c - 97, List.mem_range.mpr (by omega), by omega⟩
  · rw [decide_eq_false h, decide_eq_false_iff_not, List.mem_map]
    rintro ⟨a, h1, h2⟩
    have := List.mem_range.mp h1
    omega
theorem scSmall : FnScope ["text", "letter"] ["text"] (defScope sSmall) := ⟨rfl, rfl, rfl, by decide +kernel, rfl, by decide +kernel, by decide +kernel⟩
theorem ok_small {f : Addr} {fd : FuncData} (F : Fun K "is_small" "is_small" sSmall f fd) (T : Cs mg) : FnOk P w K mg base CX0 1 f fd ["text"] spSmall := by
  refine F.ok scSmall (fun vs H Q E h => ?_) (fun cdv A outer s H vs Q E hr h => ?_)
  · obtain ⟨s, rfl, _⟩ := h
    rfl
  · obtain ⟨s, rfl, hl, k⟩ := h
    obtain ⟨t, hsm⟩ := T.small
    refine ⟨_, pss_one (ps_ret (pe_callB (cr_all rfl) (by rfl) T.all (by decide +kernel) (pa_cons (pe_lc (own := [("letter", 1)]) (g := gName 1) (tt := tYes) rfl scSmall.nd (pi_str (pv 0)) (blkOk_by (N := ["text", "letter"]) (sc := defScope sSmall) (by decide +kernel)) (fun _ _ _ _ _ => pg_name (i := 1) scSmall.nd rfl (Or.inl rfl)) (fun _ _ _ _ _ => pts_nil)
      (fun _ _ _ _ _ => pe_cmpR op_in_sign (pv 1) (pe_glob (v := .str abc) (by rfl) hsm ⟨_, rfl⟩) (by rfl))) pa_nil))), ?_⟩
    refine ⟨_, rfl, s, rfl, fun D hD => lc_it walk_str (fun i H6 => Same H H6 ∧ H6 D = some (.lst (((s.cps.toList.take i).map isLow).map V.bl))) ⟨Same.new (Same.refl H) hD, upd_same⟩ (fun _ _ _ _ => trivial) ?_ ?_⟩
    · rintro i x H6 H7 hi ⟨s6, eD⟩ ⟨rfl, ch, hch, rfl⟩
      have hch' : s.cps.toList[i]? = some ch := by rw [Array.getElem?_toList]; exact hch
      have hi' : i < s.length := hi
      refine ⟨rfl, _, rfl, ch, abc, rfl, rfl, _, eD, ?_, ?_, ?_⟩
      · rw [List.length_map, List.length_map, List.length_take, sizeLine_eq, len_toList]
        omega
      · exact fun b o e => by
          rw [upd_ne (ne_of_none e hD)]
          exact s6 b o e
      · rw [upd_same, take_snoc hch', List.map_append, List.map_append, mem_abc]
        rfl
    · rintro H6 ⟨s6, eD⟩
      rw [show s.cps.size = s.cps.toList.length from rfl, List.take_length] at eD
      refine ⟨D, _, rfl, SqL.of eD, ?_⟩
      have e : ((s.cps.toList.map isLow).all id) = s.cps.toList.all isLow := by
        rw [List.all_map]
        rfl
      rw [e]
      exact k H6 s6
theorem scName : FnScope ["thing"] ["thing"] (defScope sName) := ⟨rfl, rfl, rfl, by decide +kernel, rfl, by decide +kernel, by decide +kernel⟩
theorem ok_name {f : Addr} {fd : FuncData} (F : Fun K "is_name" "is_name" sName f fd) (DS : Df P w K mg base CX0 "is_small" 1 ["text"] spSmall) (T : Cs mg) : FnOk P w K mg base CX0 2 f fd ["thing"] (spP K nameD) := by
  refine F.ok scName (fun vs H Q E h => ?_) (fun cdv A outer s H vs Q E hr h => ?_)
  · obtain ⟨v, d, rfl, _⟩ := h
    rfl
  · obtain ⟨v, d, rfl, hd, fd', k⟩ := h
    obtain ⟨t, hnl⟩ := T.nlet
    refine ⟨_, pss_one (ps_ret (pe_and (pe_callB call_isi (by rfl) T.isi boot_isinstance (pa_cons (pv 0) (pa_cons (pe_bltn (v := .ty "str") (by rfl) T.str boot_str rfl) pa_nil)))
      (pe_and (pe_chain op_le op_le pe_int (pe_callB call_len (by rfl) T.len PySem.boot_len (pa_cons (pv 0) pa_nil)) (pe_glob (v := .int 8) (by rfl) hnl ⟨_, rfl⟩))
      (pe_one (pe_df DS hr pass0 (pa_cons (pv 0) pa_nil)))))), ?_⟩
    refine ⟨_, rfl, _, _, _, _, _, rfl, .ty "str", tyx_of hd, kit_str d, _, rfl, ?_⟩
    cases d with
    | str s =>
      have ev : v = .str s := by
        cases hd with
        | dat h => cases h; rfl
      subst ev
      have hl := ok_str fd'
      refine ⟨_, rfl, .str s, s.length, rfl, ⟨by rw [sizeLine_eq]; omega, rfl⟩, _, _, rfl, rfl, _, rfl, ?_⟩
      have hq : ∀ (b : Bool) (H' : Hp), b = nameB s → Same H H' → Q (.bl b) H' := fun b H' e sm => by
        rw [e]
        exact k H' sm
      refine ite2 (fun h1 => ?_) (fun h1 => ?_)
      · refine ⟨_, _, rfl, rfl, _, rfl, ?_⟩
        refine ite2 (fun h2 => ?_) (fun h2 => ?_)
        · refine ⟨_, rfl, s, rfl, by omega, fun H' sm => hq _ H' ?_ sm⟩
          unfold nameB
          rw [decide_eq_true_iff] at h1 h2
          rw [show decide (1 ≤ s.length ∧ s.length ≤ 8) = true from decide_eq_true (by omega), Bool.true_and]
        · refine hq _ H ?_ (Same.refl H)
          unfold nameB
          rw [decide_eq_true_iff] at h1 h2
          rw [show decide (1 ≤ s.length ∧ s.length ≤ 8) = false from decide_eq_false (by omega), Bool.false_and]
      · refine ⟨_, rfl, hq _ H ?_ (Same.refl H)⟩
        unfold nameB
        rw [decide_eq_true_iff] at h1
        rw [show decide (1 ≤ s.length ∧ s.length ≤ 8) = false from decide_eq_false (by omega), Bool.false_and]
    | _ => exact k H (Same.refl H)
def rInT (K : PySem.W.Frag) : R2 := fun x y H Q => ∃ d ds, Dp K H x d ∧ Dp K H y (.tuple ds) ∧ SeqAt.shaped d = true ∧ SeqAt.shaped (.tuple ds) = true ∧ Q (.bl (ds.any fun z => PyData.eqv z d)) H
theorem op_inT {X : Cx} (hu : X.A.units + 65 < cLine) : OpR X (compareOp .In) (rInT X.K) := fun pins s σ H x y v u Q I rx ry h => by
  obtain ⟨d, ds, hd, he, sd, se, q⟩ := h
  obtain ⟨_, r1⟩ := Dp.reads I d x v hd rx
  obtain ⟨_, r2⟩ := Dp.reads I (.tuple ds) y u he ry
  exact SeqAt.in_tuple_reads r2 r1 (by simpa [PyData.canLay0] using SeqAt.canLay_of_shaped se) (SeqAt.canLay_of_shaped sd) (room_in_shaped sd hu) ⟨.bl _, H, I, rfl, q⟩
theorem units65 {k : Nat} {A : Around} (r : Room k A) : A.units + 65 < cLine := by
  have := r.un
  omega
end
end K1
set_option Elab.async false
set_option linter.all false
set_option maxRecDepth 100000
set_option maxHeartbeats 4000000
/-! sorted(xs, key=f), f a def of the program or a lambda, its answers texts -/
namespace SrtF
open PySem PySem.Spec PyProof.Rows L2 PySem.W
section
variable {X : Cx} {pins : List (Addr × Obj)} {σ : L2.St} {H : Hp} {s : Shared} {T : Type}
/-- one call of the key: the heap grows, a text comes -/
def KTurn (X : Cx) (A : Around) (σ : L2.St) (H : Hp) (f : Value) (pins0 : List (Addr × Obj)) (x : V) (z : Str) : Prop :=
  ∀ (pins : List (Addr × Obj)) (s' : Shared) (H' : Hp) (u : Value), (∀ p ∈ pins0, p ∈ pins) → Inv X pins σ H' s' → Same H H' → RelV x u →
    wpAny (model X.prog X.w) A (call f [u]) (fun v s'' => ∃ H'', Inv X pins σ H'' s'' ∧ Same H' H'' ∧ ∃ t, v = .str z t) (fun _ _ => False) s'
theorem no_lt {a b : Nat} (h : a < b) (h2 : b ≤ a) : False := by omega
theorem mine_ok (I : Inv X pins σ H s) {b : Addr} (hb : s.heap.objs.size ≤ b) : (b ∈ X.ex ∨ X.s_0.heap.objs.size ≤ b) ∧ b ≠ X.env.locals ∧ (∀ x c, X.env.cells.lookup x = some c → c ≠ b) ∧ (∀ p ∈ X.pn ++ pins, p.1 ≠ b) ∧ b ∉ X.fs := by
  have h0 : X.s_0.heap.objs.size ≤ s.heap.objs.size := Nat.le_trans I.ok.above (Nat.le_of_lt I.lt)
  refine ⟨.inr (Nat.le_trans h0 hb), fun z => ?_, fun x c e z => ?_, fun p hp z => ?_, fun z => I.nofs hb z⟩
  · have := I.lt
    rw [← z] at this
    exact no_lt this hb
  · obtain ⟨v, o, ho, _⟩ := I.cell x c e
    have := Heap.lt_size ho
    rw [z] at this
    exact no_lt this hb
  · have := Heap.lt_size (I.pin p hp).1
    rw [z] at this
    exact no_lt this hb
/-- two objects of ours, untracked, have changed: the one is tracked from now on -/
theorem inv_two {a kS : Addr} {o : HO} {h' : Heap} {t' : Nat} (I : Inv X pins σ H s) (oa : (a ∈ X.ex ∨ X.s_0.heap.objs.size ≤ a) ∧ a ≠ X.env.locals ∧ (∀ x c, X.env.cells.lookup x = some c → c ≠ a) ∧ (∀ p ∈ X.pn ++ pins, p.1 ≠ a))
    (ok : (kS ∈ X.ex ∨ X.s_0.heap.objs.size ≤ kS) ∧ kS ≠ X.env.locals ∧ (∀ x c, X.env.cells.lookup x = some c → c ≠ kS) ∧ (∀ p ∈ X.pn ++ pins, p.1 ≠ kS)) (na : H a = none) (nk : H kS = none)
    (k : ∀ b o, b ≠ a → b ≠ kS → s.heap.get? b = some o → h'.get? b = some o) (new : ObjOk X.prog X.w (upd H a o) h' a o) : Inv X pins σ (upd H a o) { s with heap := h', toks := t' } := by
  have nt : ∀ b u, H b = some u → b ≠ a ∧ b ≠ kS := fun b u e => ⟨fun z => (by rw [z, na] at e; cases e), fun z => (by rw [z, nk] at e; cases e)⟩
  refine I.step (g' := s.gens) (d' := s.drawn) (ch := [a, kS]) (fun b hb => ?_) (fun b o _ _ hc e _ => ?_) (fun b o _ _ hc e _ => ⟨o.slots, ?_⟩) (fun b o hc _ n => ?_)
    (fun b o hc e => ⟨o, ?_⟩) (fun b xs e => ?_) (fun b o xs e => ?_) (fun b ps e => ⟨#[], ?_⟩) (fun m hm => ?_) (fun b u e => ?_) I.bare
  · rcases List.mem_cons.mp hb with rfl | hb
    · exact oa
    · rcases List.mem_cons.mp hb with rfl | hb
      · exact ok
      · cases hb
  · exact k b o (fun z => hc (by simp [z])) (fun z => hc (by simp [z])) e
  · exact k b o (fun z => hc (by simp [z])) (fun z => hc (by simp [z])) e
  · rw [upd_ne (fun z => hc (by simp [z]))]
    exact n
  · exact k b o (fun z => hc (by simp [z])) (fun z => hc (by simp [z])) e
  · rw [upd_ne (nt b _ e).1]
    exact e
  · rw [upd_ne (nt b _ e).1]
    exact e
  · rw [upd_ne (nt b _ e).1, e]
    simp
  · obtain ⟨o, es, ep, ho, r⟩ := hm
    exact ⟨o, es, ep, k _ o (Ne.symm oa.2.1) (Ne.symm ok.2.1) ho, r⟩
  · by_cases hb : b = a
    · rw [hb, upd_same] at e
      cases e
      rw [hb]
      exact new
    · rw [upd_ne hb] at e
      refine (I.hok b u e).stay (fun c v hc q => k c v ?_ ?_ q) (fun c q => ?_) fun c xs q => ?_
      · rcases hc with z | z
        · rw [z]
          exact hb
        · exact (nt c _ z).1
      · rcases hc with z | z
        · rw [z]
          exact (nt b u e).2
        · exact (nt c _ z).2
      · rw [upd_ne (nt c _ q).1]
        exact q
      · rw [upd_ne (nt c _ q).1]
        exact q
/-- what is sorted: by the texts -/
def leK (key : T → Str) (a b : T) : Bool := dataLe false (fun t => PyData.str (key t)) a b
theorem alike_strs (zs : List Str) : AllAlike (zs.map PyData.str) := fun d hd d' hd' => by
  obtain ⟨z, _, rfl⟩ := List.mem_map.mp hd
  obtain ⟨z', _, rfl⟩ := List.mem_map.mp hd'
  rfl
theorem sortable_strs (zs : List Str) : Sortable (zs.map PyData.str) := .inr fun d hd => by
  obtain ⟨z, _, rfl⟩ := List.mem_map.mp hd
  exact ⟨nofun, nofun⟩
theorem each_vals {xs : List (V × T)} : ∀ {its : List Value}, Vals (xs.map Prod.fst) its → EachIs (fun v (p : V × T) => RelV p.1 v) its xs := by
  induction xs with
  | nil => intro its h; cases h; exact .nil
  | cons p r ih =>
    intro its h
    cases h with
    | cons h t => exact .cons h (ih t)
theorem vals_each {xs : List (V × T)} : ∀ {its : List Value}, EachIs (fun v (p : V × T) => RelV p.1 v) its xs → Vals (xs.map Prod.fst) its := by
  induction xs with
  | nil => intro its h; cases h; exact .nil
  | cons p r ih =>
    intro its h
    cases h with
    | cons h t => exact .cons h (ih t)
theorem each_at {α β : Type} {R : α → β → Prop} : ∀ {as : List α} {bs : List β}, EachIs R as bs → ∀ {i : Nat} {a : α}, as[i]? = some a → ∃ b, bs[i]? = some b ∧ R a b
  | _, _, .nil, i, a, h => by simp at h
  | _, _, .cons h t, 0, a, e => ⟨_, rfl, by
      have e' := Option.some.inj e
      rw [← e']
      exact h⟩
  | _, _, .cons h t, i + 1, a, e => each_at t (i := i) e
theorem sorted_key {l : Addr} {f : Value} {key : T → Str} {ps : List (V × T)} {Q : VK} (I : Inv X pins σ H s) (hl : SqL X.K H l (ps.map Prod.fst)) (ht : ∀ x, Builtin.«list.sort» ⟨[.ref x], [(Str.ofString "key", f)]⟩ = ksk_tree x f false)
    (hu : X.A.units + 8 < cLine) (hturn : ∀ p ∈ ps, KTurn X X.A.in1.in1 σ H f pins p.1 (key p.2))
    (hq : ∀ p H', Same H H' → H' p = none → Q (.ref p) (upd H' p (.lst ((ps.mergeSort (leK fun p => key p.2)).map Prod.fst)))) :
    wpAny (model X.prog X.w) X.A (call (.builtin "sorted") [.ref l] [(Str.ofString "key", f)]) (EP X pins σ Q) X.xe s := by
  obtain ⟨its, rv, pl, hz⟩ := I.list hl
  have eR := each_vals rv
  have hZ : its.length ≤ sizeLine := by rw [← rv.length]; exact hz
  have hlen : its.length = ps.length := eR.length
  refine sorted_of_sort pl.isList hZ (ksk_s1 _ _) (fun _ => ksk_l1 _ _) fun E' => ?_
  rw [ht]
  -- the list and what holds the keys are ours
  have hC := copyHeap_at s.heap its
  have ha : s.heap.objs.size + 1 < (copyHeap s.heap its).objs.size := Heap.lt_size hC
  obtain ⟨e1, ho1⟩ : ∃ e1, ((copyHeap s.heap its).update (s.heap.objs.size + 1) (Obj.mapSeq fun _ => (#[] : Array Value))).get? (s.heap.objs.size + 1) = some (seqObj "list" #[] e1) := ⟨_, get?_update_seq hC fun _ => #[]⟩
  have hkS : (((copyHeap s.heap its).update (s.heap.objs.size + 1) (Obj.mapSeq fun _ => (#[] : Array Value))).push (seqObj "tuple" its.toArray 0)).objs.size = (copyHeap s.heap its).objs.size + 1 := by rw [size_push', Heap.size_update]
  unfold ksk_tree
  refine wpAny_bind (listItems_at hC rfl ?_)
  refine wpAny_bind (listUpdate_at hC rfl ?_ (by rw [List.size_toArray]; exact hZ) (Nat.zero_le _))
  refine wpAny_bind (seqEpoch_at ho1 rfl ?_)
  refine wpAny_bind (wpAny_newTuple ?_ (by show its.length ≤ _; exact hZ))
  refine wpAny_bind (wpAny_newList ?_ (Nat.zero_le _))
  refine wpAny_holding ?_
  generalize ekS : (((copyHeap s.heap its).update (s.heap.objs.size + 1) (Obj.mapSeq fun _ => (#[] : Array Value))).push (seqObj "tuple" its.toArray 0)).objs.size = kS at hkS ⊢
  generalize ea : s.heap.objs.size + 1 = a at hC ha ho1 ekS ⊢
  have bigA : s.heap.objs.size ≤ a := by rw [← ea]; exact Nat.le_succ _
  have hka : a ≠ kS := by
    rw [hkS]
    exact Nat.ne_of_lt (Nat.lt_succ_of_lt ha)
  have bigK : s.heap.objs.size ≤ kS := by
    rw [hkS]
    exact Nat.le_succ_of_le (Nat.le_trans bigA (Nat.le_of_lt ha))
  have old : ∀ b o, s.heap.get? b = some o → ((((copyHeap s.heap its).update a (Obj.mapSeq fun _ => (#[] : Array Value))).push (seqObj "tuple" its.toArray 0)).push (seqObj "list" #[] 0)).get? b = some o := fun b o e => by
    have e' := sorting_copy_old (vs := its) e
    rw [ea] at e'
    exact e'
  have atK : ((((copyHeap s.heap its).update a (Obj.mapSeq fun _ => (#[] : Array Value))).push (seqObj "tuple" its.toArray 0)).push (seqObj "list" #[] 0)).get? kS = some (seqObj "list" #[] 0) := by
    rw [← ekS]
    exact Heap.get?_push_size _ rfl
  have atA : ((((copyHeap s.heap its).update a (Obj.mapSeq fun _ => (#[] : Array Value))).push (seqObj "tuple" its.toArray 0)).push (seqObj "list" #[] 0)).get? a = some (seqObj "list" #[] e1) :=
    Heap.get?_push_of_some _ (Heap.get?_push_of_some _ ho1)
  generalize hG : ((((copyHeap s.heap its).update a (Obj.mapSeq fun _ => (#[] : Array Value))).push (seqObj "tuple" its.toArray 0)).push (seqObj "list" #[] 0)) = G at old atK atA
  show wpAny _ _ _ _ _ { s with heap := G }
  have I2 : Inv X pins σ H { s with heap := G } := I.kept (t' := s.toks) old
  have okA := mine_ok I bigA
  have okK := mine_ok I bigK
  have nA : H a = none := I.hok.fresh bigA
  have nK : H kS = none := I.hok.fresh bigK
  have nocell : ∀ (xs : Array Value) (n : Nat) v, (seqObj "list" xs n).data ≠ .cell v := fun xs n v z => by cases z
  -- the keys, one by one
  unfold ksk_rest
  refine wpAny_bind (wpAny_rule ?_)
  first
    | rw [List.forIn_toArray]
    | (rw [← Array.forIn_toList]; simp only [List.toList_toArray])
    | rw [← Array.forIn_toList]
  refine wpAny_bind (ksk_fold (fun i s' => ∃ (kA : Array Value) (e : Nat) (H' : Hp), Inv X (pins ++ [(kS, seqObj "list" kA e), (a, seqObj "list" #[] e1)]) σ H' s' ∧ Same H H' ∧ EachIs (fun v (p : V × T) => ∃ t, v = Value.str (key p.2) t) kA.toList (ps.take i)) its 0 _ ?start ?step ?done)
  case start =>
    refine ⟨#[], 0, H, I2.pins_of fun p hp => ?_, Same.refl H, by rw [List.take_zero]; exact .nil⟩
    rcases List.mem_append.mp hp with hp | hp
    · exact I2.pin p (List.mem_append_right _ hp)
    · rcases List.mem_cons.mp hp with rfl | hp
      · exact ⟨atK, nK, okK.2.1, okK.2.2.2.2, nocell _ _⟩
      · rcases List.mem_cons.mp hp with rfl | hp
        · exact ⟨atA, nA, okA.2.1, okA.2.2.2.2, nocell _ _⟩
        · cases hp
  case step =>
    rintro j x s' hx ⟨kA, e, H', J, sm, hk⟩
    simp only [Nat.zero_add] at hk ⊢
    have hj : j < its.length := (List.getElem?_eq_some_iff.mp hx).1
    obtain ⟨p, hpj, hrx⟩ := each_at eR hx
    have hz2 : kA.size ≤ its.length := by
      have h1 := hk.length
      rw [Array.length_toList, List.length_take] at h1
      omega
    refine wpAny_bind (wpAny_attempt (wpAny_mono (hturn p (List.mem_of_getElem? hpj) _ s' H' x (fun q hq => List.mem_append_left _ hq) J sm hrx) (fun v s'' he => ?_) fun _ _ hF => hF.elim))
    obtain ⟨H'', J2, sm2, t, rfl⟩ := he
    try dsimp only
    obtain ⟨nk2, zk, _, _, _⟩ := J2.pin (kS, seqObj "list" kA e) (by simp)
    obtain ⟨na2, za, _, _, _⟩ := J2.pin (a, seqObj "list" #[] e1) (by simp)
    dsimp only at nk2 zk na2 za
    have s1 := Heap.SameBut.update s''.heap kS (Obj.mapSeq (·.push (Value.str (key p.2) t)))
    obtain ⟨c2, hc2⟩ : ∃ c2, (s''.heap.update kS (Obj.mapSeq (·.push (Value.str (key p.2) t)))).get? kS = some (seqObj "list" (kA.push (Value.str (key p.2) t)) c2) := ⟨_, get?_update_seq nk2 (·.push (Value.str (key p.2) t))⟩
    have ek : ps.take (j + 1) = ps.take j ++ [p] := by rw [List.take_add_one, hpj]; simp
    have ea2 : (kA.push (Value.str (key p.2) t)).toList = kA.toList ++ [Value.str (key p.2) t] := by simp
    refine wpAny_bind (listUpdate_at nk2 rfl ?_ (Nat.le_trans hz2 hZ) (Nat.le_trans (Nat.le_of_eq (Array.size_push ..)) (Nat.succ_le_succ (Nat.le_trans hz2 hZ))))
    have J3 : Inv X pins σ H'' s'' := J2.pins_of fun p hp => J2.pin p (by
      rcases List.mem_append.mp (List.mem_append_right X.pn hp) with z | z <;> simp [z])
    have J4 : Inv X pins σ H'' { s'' with heap := s''.heap.update kS (Obj.mapSeq (·.push (Value.str (key p.2) t))), toks := s''.toks } := J3.turned (it := kS) (fun b o hb e => (s1.2 b hb).trans e) zk okK.2.1 okK.1 okK.2.2.1 okK.2.2.2.1
    refine wpAny_pure ⟨rfl, kA.push (Value.str (key p.2) t), c2, H'', J4.pins_of fun q hq => ?_, sm.trans sm2, ?_⟩
    · rcases List.mem_append.mp hq with hq | hq
      · exact J4.pin q (List.mem_append_right _ hq)
      · rcases List.mem_cons.mp hq with rfl | hq
        · exact ⟨hc2, zk, okK.2.1, okK.2.2.2.2, nocell _ _⟩
        · rcases List.mem_cons.mp hq with rfl | hq
          · exact ⟨(s1.2 a hka).trans na2, za, okA.2.1, okA.2.2.2.2, nocell _ _⟩
          · cases hq
    · rw [ea2, ek]
      exact each_snoc ⟨t, rfl⟩ hk
  case done =>
    rintro s' ⟨kA, e, H', J, sm, hk⟩
    have e3 : ps.take (0 + its.length) = ps := List.take_of_length_le (by omega)
    rw [e3] at hk
    obtain ⟨nk', zk, _, _, _⟩ := J.pin (kS, seqObj "list" kA e) (by simp)
    obtain ⟨na', za, _, _, _⟩ := J.pin (a, seqObj "list" #[] e1) (by simp)
    dsimp only at nk' zk na' za
    have hsz : kA.size = its.length := by
      have h1 := hk.length
      rw [Array.length_toList] at h1
      omega
    have hk' : EachIs (fun v k => ∃ as, Reads s'.heap v k as) kA.toList (ps.map fun p => PyData.str (key p.2)) := by
      clear hsz
      generalize hkl : kA.toList = kL at hk
      clear hkl
      clear e3 eR rv hlen hl hturn hq hz
      induction hk with
      | nil => exact .nil
      | cons h _ ih =>
        obtain ⟨t, rfl⟩ := h
        exact .cons ⟨[], Reads.str _ t⟩ ih
    try dsimp only
    refine wpAny_bind (listItems_at nk' rfl ?_)
    obtain ⟨G2, g1, g2⟩ := restrict s'.heap fun b => decide (b ≠ kS)
    have hal : AllAlike (ps.map fun p => PyData.str (key p.2)) := by
      have := alike_strs (ps.map fun p => key p.2)
      rw [List.map_map] at this
      exact this
    have hsk : Sortable (ps.map fun p => PyData.str (key p.2)) := by
      have := sortable_strs (ps.map fun p => key p.2)
      rw [List.map_map] at this
      exact this
    refine keyH_end (κ := dataKind s'.heap (ps.map fun p => PyData.str (key p.2))) (h₁ := G2) (fun b o hb q => ?_) (g2 kS (by simp)) nk' na' (Ne.symm hka) (SortsAt.data (s := s') hk' hal hsk fun d hd => ?_) hsz hZ fun h3 tk3 c k3 n3 => ⟨rfl, ?_⟩
    · by_cases hbk : b = kS
      · rw [hbk, g2 kS (by simp)] at q
        cases q
      · rw [g1 b (by simpa using hbk)] at q
        exact q
    · obtain ⟨p, _, rfl⟩ := List.mem_map.mp hd
      show X.A.units + 2 + _ < cLine
      have : (PyData.str (key p.2)).depth ≤ 1 := by simp [PyData.depth]
      omega
    · have ko : KeyedOut false (ps.map fun p => PyData.str (key p.2)) its (sortVals (dataKind s'.heap (ps.map fun p => PyData.str (key p.2))) false kA.toList its) := ⟨s'.heap, kA.toList, hal, rfl, hk'⟩
      have eo := keyedOut_each (fun p : V × T => PyData.str (key p.2)) ko eR
      have J3 : Inv X pins σ H' s' := J.pins_of fun p hp => J.pin p (by
        rcases List.mem_append.mp (List.mem_append_right X.pn hp) with z | z <;> simp [z])
      have vo := vals_each eo
      have lo : (sortVals (dataKind s'.heap (ps.map fun p => PyData.str (key p.2))) false kA.toList its).length = its.length := (ko.length (by rw [List.length_map]; exact hlen.symm))
      have J5 : Inv X pins σ (upd H' a (.lst ((ps.mergeSort (leK fun p => key p.2)).map Prod.fst))) { s' with heap := h3, toks := tk3 } := by
        refine inv_two J3 ⟨okA.1, okA.2.1, okA.2.2.1, okA.2.2.2.1⟩ ⟨okK.1, okK.2.1, okK.2.2.1, okK.2.2.2.1⟩ za zk (fun b o h1 h2 q => k3 b o h1 ?_) ⟨?_, _, c, vo, n3⟩
        · rw [g1 b (by simpa using h2)]
          exact q
        · have vl := vo.length
          rw [lo] at vl
          exact Nat.le_trans (Nat.le_of_eq vl) hZ
      exact ⟨.ref a, _, J5, rfl, hq a H' sm za⟩
end
end SrtF
set_option Elab.async false
set_option linter.all false
set_option maxRecDepth 100000
set_option maxHeartbeats 4000000
namespace SrtF
open PySem PySem.Spec PyProof.Rows L2 PySem.W
section
variable {X : Cx} {T : Type}
theorem in1_in1 {k : Nat} {A : Around} (r : Room (k + 2) A) : Room k A.in1.in1 := (Room.in1 (Room.in1 r))
/-- sorted(xs, key=f), f a def: what it asks of each call -/
def rSortF (K : PySem.W.Frag) (T : Type) (sp : Sp) (f : Addr) : List V → List V → Hp → VK → Prop := fun vs zs H Q => ∃ (l : Addr) (ps : List (V × T)) (key : T → Str), vs = [.ref l] ∧ zs = [.ref f] ∧ SqL K H l (ps.map Prod.fst) ∧
  (∀ p ∈ ps, ∀ H', Same H H' → sp [p.1] H' (fun v H'' => v = .str (key p.2) ∧ Same H' H'') C8.E0) ∧ ∀ p H', Same H H' → H' p = none → Q (.ref p) (upd H' p (.lst ((ps.mergeSort (leK fun p => key p.2)).map Prod.fst)))
theorem cr_sortF {k : Nat} {f : Addr} {fd : FuncData} {a : Str} {sp : Sp} (F : FnOk X.prog X.w X.K X.mg X.base C8.CX0 k f fd [a] sp) (hr : Room (k + 2) X.A) (hb : Binds X.K fd [a] []) :
    CallRK X (.builtin "sorted") [Str.ofString "key"] (rSortF X.K T sp f) := by
  intro pins s σ H vs zs us ws Q I rx rz h
  obtain ⟨l, ps, key, rfl, rfl, hl, hp, q⟩ := h
  obtain ⟨u, rfl, ru⟩ := vals1 rx
  obtain ⟨w1, rfl, rw1⟩ := vals1 rz
  obtain rfl : u = Value.ref l := ru
  obtain rfl : w1 = Value.ref f := rw1
  have hun := hr.un
  refine sorted_key I hl (fun _ => ksk_t1 _ _) (by omega) (fun p hpm => ?_) q
  intro pins' s' H' u hin J sm ru
  have hbd := hb s' [u] J.kIn rfl
  refine wpAny_call (codeAny_mono (F.run X.A.in1.in1 X.stack s' H' ⟨[u], []⟩ [u] [p.1] (fun v H'' => v = .str (key p.2) ∧ Same H' H'') C8.E0 (in1_in1 hr) J.env0.in1.in1 (by simpa using hbd) (.cons ru .nil) (hp p hpm H' sm)) fun r s'' hq => ?_)
  cases r with
  | error e => exact hq.elim
  | ok fl =>
    cases fl with
    | ret u =>
      obtain ⟨v, H'', J2, rv, rfl, s2⟩ := J.after hq
      obtain ⟨t, rfl⟩ := rv
      exact ⟨H'', J2, s2, t, rfl⟩
    | next => exact False.elim hq
    | brk => exact False.elim hq
    | cont => exact False.elim hq
/-- sorted(e, key=lambda a: body): what it asks -/
def tSortL (K : PySem.W.Frag) (T : Type) (TT : List (Addr × Str)) (tb : TE) (t : TA) : TE := fun σ H Q => t σ H fun vs H1 => LamX.Tabs TT H1 ∧ ∀ H2, LamX.ExtN H1 H2 → LamX.Tabs TT H2 →
  ∃ (l : Addr) (ps : List (V × T)) (key : T → Str), vs = [.ref l] ∧ SqL K H2 l (ps.map Prod.fst) ∧ (∀ p ∈ ps, ∀ H', Same H2 H' → tb [some p.1] H' (fun v H'' => v = .str (key p.2) ∧ Same H' H'')) ∧
  ∀ p H', Same H2 H' → H' p = none → Q (.ref p) (upd H' p (.lst ((ps.mergeSort (leK fun p => key p.2)).map Prod.fst)))
theorem pe_sortL {TT : List (Addr × Str)} {c P : Addr} {k : Nat} {a : Str} {params : Arguments} {body e : Expr} {scope : Scope} {tb : TE} {t : TA} {p lpos kpos pos : Pos} (hg : Gl X "sorted") (hm : X.mg "sorted" = none) (ha : PA X [e] t)
    (TB : LamX.TabB X.base X.mg c P) (hcode : X.env.code = .ref c) (hmT : (P, X.env.qual ++ "<lambda>") ∈ TT) (hu : ∀ p ∈ TT, p.1 = P → p.2 = X.env.qual ++ "<lambda>") (hr : Room (k + 3) X.A) (hdef : defaultsOf params X.env = ([], []))
    (S : FnScope [a] [a] scope) (hst : X.stack = X.env :: X.outer) (hfr : X.env.frame = some X.env.locals)
    (hbind : ∀ (q : Str) (cl : List (Str × Addr)) (pm cv ctv u : Value), bindArgs (PySem.W.kla_fn "<lambda>" q params body scope cl pm cv ctv) ⟨[u], []⟩ = pure [(a, u)])
    (hbody : ∀ (A : Around) (outer : List Env) (s : Shared) (H : Hp) (f c' : Addr), Room k (A.deeper (envOfC (X.env.qual ++ "<lambda>") scope s.heap.objs.size f (.ref c'))) → PE (cxOf C8.CX0 X.prog X.w X.K X.mg X.base [a] (X.env.qual ++ "<lambda>") scope f (.ref c') A outer s H C8.E0) body tb)
    (hclo : cloFrom X.env.cells scope.names [] = [] := by rfl)
    (he : backTo pos (starEach [e] X.env) = (false, eval e X.env) :: backTo pos (starEach [] X.env) := by rfl) (hpl : (backTo pos (starEach [e] X.env)).any (·.1) = false := by rfl) :
    PE X (.Call (.Name "sorted" p) [e] [⟨some "key", .Lambda params body scope lpos, kpos⟩] pos) (tSortL X.K T TT tb t) := by
  refine ⟨fun pins s σ H Q I h => ?_⟩
  refine wpAny_Call_Name_kw (ld_blt I hg hm (by decide +kernel : bootBuiltins "sorted" = some (.builtin "sorted")) ?_ (by decide) (by decide))
  refine PyProof.Rows.callWith_kw (thn (ha.run pos pins s σ H _ I h) fun us s1 ⟨vs, H1, I1, r1, hT, q1⟩ => ?_) he hpl rfl rfl
  show wpAny _ _ (evalAll ((do let v ← eval (.Lambda params body scope lpos) X.env; standAt pos; pure v) :: [])) _ _ s1
  have hun := hr.un
  refine wpAny_evalAll_cons (wpAny_bind (LamX.lam_make2 I1 TB hcode hmT hu hT hdef (fun y hy e => absurd e (S.nofree y hy)) fun f c' pm ctv H2 s2 I2 eN T2 hf hfn hfs hco => wpAny_bind (wpAny_standAt (wpAny_pure (wpAny_evalAll_nil ?_)))))
  obtain ⟨l, ps, key, rfl, hl, hp, q⟩ := q1 H2 eN T2
  obtain ⟨u, rfl, ru⟩ := vals1 r1
  obtain rfl : u = Value.ref l := ru
  rw [hclo] at hf
  have nfl : f ≠ X.env.locals := fun z => hfs (by
    rw [hst]
    unfold frs
    rw [List.filterMap_cons, hfr, z]
    exact List.mem_cons_self)
  have nff : f ∉ X.fs := fun z => hfs (by
    rw [hst]
    unfold frs
    rw [List.filterMap_cons, hfr]
    exact List.mem_cons_of_mem _ z)
  have J : Inv X (pins ++ [(f, PySem.W.kla_obj "<lambda>" (X.env.qual ++ "<lambda>") params body scope [] pm c' ctv)]) σ H2 s2 := I2.pins_of fun p hp => by
    rcases List.mem_append.mp hp with hp | hp
    · exact I2.pin p (List.mem_append_right _ hp)
    · obtain rfl := List.mem_singleton.mp hp
      exact ⟨hf, hfn, nfl, nff, fun v z => by cases z⟩
  refine wpAny_mono (sorted_key (T := T) J hl (fun _ => ksk_t1 _ _) (by omega) (fun p hpm => ?_) q) (fun v s' ⟨v', H', J', rv, q'⟩ => ⟨v', H', J'.unpinned, rv, q'⟩) fun _ _ z => z
  intro pins' s' H' u hin J' sm ru
  obtain ⟨of1, _⟩ := J'.pin _ (List.mem_append_right X.pn (hin _ (List.mem_append_right pins (List.mem_singleton.mpr rfl))))
  dsimp only at of1
  obtain ⟨⟨oc, vs, t, hoc, hdc, hvc⟩, _, _⟩ := J'.hok c' _ (sm _ _ hco)
  have e0 := J'.env0.in1.in1
  have lim : s'.heap.NoLimit := J'.nolimit
  have hr2 : Room (k + 1) X.A.in1.in1 := in1_in1 hr
  have rc : codeAny (model X.prog X.w) X.A.in1.in1 (.call (.ref f) ⟨[u], []⟩) (CR C8.CX0 X.stack X.prog X.w H' s' (fun v H'' => v = .str (key p.2) ∧ Same H' H'') C8.E0) s' := by
    refine PySem.W.kla_callFunE hr2.depth of1 rfl S.co S.gen rfl ⟨c', oc, vs, t, rfl, hoc, hdc, hvc⟩ ?_
    rw [hbind]
    refine wpAny_pure (wpAny_newFunctionEnv_cells S.kind (fun y hy => ?_) fun env he s1 x => ?_)
    · obtain rfl := List.mem_singleton.mp hy
      rcases S.par a (List.mem_singleton.mpr rfl) with q | q
      · exact .inl q
      · exact .inr ⟨q, PySem.W.cellsFrom_some _ _ _ (.inl q)⟩
    subst he
    refine ⟨lim.keeps x.toInCall.keep, ?_⟩
    have I0 : Inv (cxOf C8.CX0 X.prog X.w X.K X.mg X.base [a] (X.env.qual ++ "<lambda>") scope f (.ref c') X.A.in1.in1 X.stack s' H' C8.E0) [] (L2.start [a] [p.1]) H' s1 := inv_start (ps := [a]) (us := [u]) (vs := [p.1]) S hr2.hd e0 rfl (.cons ru .nil) x
    refine PySem.W.kla_codeExpr (wpAny_mono ((hbody _ _ s' H' f c' (hr2.deeper _)).run [] s1 (L2.start [a] [p.1]) H' _ I0 (hp p hpm H' sm)) (fun v s'' hs => ?_) fun e s'' hs => hs)
    obtain ⟨w', H'', K', rv, q⟩ := hs
    exact ⟨w', H'', K'.os, K'.bare, K'.base, K'.hok, rv, q⟩
  refine wpAny_call (codeAny_mono rc fun r s'' hq => ?_)
  cases r with
  | error e => exact (show False from hq).elim
  | ok fl =>
    cases fl with
    | ret u =>
      obtain ⟨v, H'', J2, rv, rfl, s2⟩ := J'.after hq
      obtain ⟨t, rfl⟩ := rv
      exact ⟨H'', J2, s2, t, rfl⟩
    | next => exact False.elim hq
    | brk => exact False.elim hq
    | cont => exact False.elim hq
end
end SrtF
set_option Elab.async false
set_option linter.all false
set_option maxRecDepth 100000
set_option maxHeartbeats 4000000
/-! max(xs, default=d) of ints; a list against an empty one; extend by a tuple -/
namespace PySem.SeqAt
open PySem PySem.Spec PySem.F
open MeetsSeq MeetsSeq2 MeetsSeq3 SeqRoads2 PySem.AutoSeq1
set_option maxRecDepth 8000 in
theorem extend_tupAny (l : Addr) (items : Array Value) (n : Nat) (b : Addr) (items2 : Array Value) (n2 : Nat) (dd : Option Addr) (sl : Array (Option Value)) (hs0 : ¬(!items.isEmpty && Builtin.List.listTooLong (items.size + items2.size)) = true) (hs1 : items.size ≤ sizeLine) (hs2 : items.size + items2.size ≤ sizeLine + 1) :
    Meets (Builtin.«list.extend» ⟨[.ref l, .ref b], []⟩) (fun _ R s => s.heap.get? l = some { cls := .type "list", dict := none, data := .seq items n, slots := #[] } ∧ s.heap.get? b = some { cls := .type "tuple", dict := dd, data := .seq items2 n2, slots := sl } ∧ R (.ok (.ret Value.none)) { s with heap := s.heap.update l (Obj.mapSeq fun x => x ++ items2), toks := s.toks }) :=
  .of_wp fun prog w A R s h => by
    obtain ⟨hp, g, d, tk, os⟩ := s; obtain ⟨hl, hb, h⟩ := h; have f1 := idx_int; have f2 := AutoSeq1.sub_tuple_tuple; have f3 := AutoSeq1.sub_list_list; have f4 := AutoSeq1.sub_tuple_list; have f5 := AutoSeq1.sub_list_tuple;
    have hz' : (items ++ items2).size ≤ sizeLine + 1 := by rw [Array.size_append]; exact hs2
    wp_walk using (wpAny_updateSeq hl rfl (hz := hs1) (_hz' := hz')), wpAny_loadPart' hl, wpAny_loadPart' hb; exact ⟨_, rfl, h⟩
end PySem.SeqAt
namespace SrtF
open PySem PySem.Spec PyProof.Rows L2 PySem.W
section
variable {X : Cx}
theorem reads_ints {h : Heap} : ∀ {vs : List Value} {ns : List Int}, IntsAre vs ns → ReadsAll h vs (ns.map PyData.int) (ns.flatMap fun _ => [])
  | _, _, .nil => .nil
  | _, _, .cons n t r => .cons (.int n t) (reads_ints r)
theorem foldl_max : ∀ (ns : List Int) (n : Int), (ns.foldl max n) ∈ n :: ns ∧ ∀ y ∈ n :: ns, y ≤ ns.foldl max n
  | [], n => ⟨by simp, fun y hy => by simp at hy; simp [hy]⟩
  | m :: ns, n => by
    obtain ⟨h1, h2⟩ := foldl_max ns (max n m)
    rw [List.foldl_cons]
    refine ⟨?_, fun y hy => ?_⟩
    · rcases List.mem_cons.mp h1 with h | h
      · rw [h]
        by_cases q : n ≤ m
        · rw [Int.max_eq_right q]; simp
        · rw [Int.max_eq_left (by omega)]; simp
      · exact List.mem_cons_of_mem _ (List.mem_cons_of_mem _ h)
    · have hb := h2 (max n m) List.mem_cons_self
      rcases List.mem_cons.mp hy with rfl | hy
      · exact Int.le_trans (Int.le_max_left _ _) hb
      · rcases List.mem_cons.mp hy with rfl | hy
        · exact Int.le_trans (Int.le_max_right _ _) hb
        · exact h2 y (List.mem_cons_of_mem _ hy)
theorem dep_ints : ∀ ns : List Int, PyData.depthAll (ns.map PyData.int) ≤ 1
  | [] => by simp [PyData.depthAll]
  | n :: r => by
    have ih := dep_ints r
    simp only [List.map_cons, PyData.depthAll, PyData.depth] at ih ⊢
    omega
/-- the greatest of them, or d -/
def rMaxDf (K : PySem.W.Frag) : List V → List V → Hp → VK → Prop := fun vs zs H Q => ∃ (a : Addr) (ns : List Int) (d : Int), vs = [.ref a] ∧ zs = [.int d] ∧ SqL K H a (ns.map V.int) ∧
  (ns = [] → Q (.int d) H) ∧ ∀ m, m ∈ ns → (∀ y, y ∈ ns → y ≤ m) → Q (.int m) H
theorem cr_maxDf (hc : X.calm = true) (hu : X.A.units + 10 < cLine) : CallRK X (.builtin "max") [Str.ofString "default"] (rMaxDf X.K) := by
  intro pins s σ H vs zs us ws Q I rx rz h
  obtain ⟨a, ns, d, rfl, rfl, hs, q0, q⟩ := h
  obtain ⟨u, rfl, ru⟩ := vals1 rx
  obtain ⟨w1, rfl, rw1⟩ := vals1 rz
  obtain rfl : u = Value.ref a := ru
  obtain ⟨t1, rfl⟩ := rw1
  obtain ⟨its, rv, hl, _⟩ := I.list hs
  have hi := rv.ints
  have dep := dep_ints ns
  refine max_list_default (xs := ns.map PyData.int) (I.ok.hd hc) hl.isList (reads_ints (by simpa using hi)) ⟨fun x hx y hy => ?_, fun x hx => ?_⟩ (by omega) (fun e h' tk hk => ?_) (fun y ys i v h' tk bs e hv r hk => ?_)
  · obtain ⟨n, _, rfl⟩ := List.mem_map.mp hx
    obtain ⟨m, _, rfl⟩ := List.mem_map.mp hy
    rfl
  · obtain ⟨n, _, rfl⟩ := List.mem_map.mp hx
    exact nofun
  · exact ⟨.int d, H, I.kept (t' := tk) hk, ⟨t1, rfl⟩, q0 (by simpa using e)⟩
  · cases ns with
    | nil => cases e
    | cons n ns =>
      cases e
      rw [maxD_ints] at r
      cases r with
      | int i t =>
        obtain ⟨m1, m2⟩ := foldl_max ns n
        exact ⟨.int _, H, I.kept (t' := tk) hk, ⟨t, rfl⟩, q _ m1 m2⟩
/-- xs.extend(t), t a tuple -/
def rExtT (K : PySem.W.Frag) : V → List V → Hp → VK → Prop := fun x vs H Q => ∃ l b xs zs, x = .ref l ∧ vs = [.ref b] ∧ H l = some (.lst xs) ∧ SqT K H b zs ∧ xs.length + zs.length ≤ sizeLine ∧ Q .non (upd H l (.lst (xs ++ zs)))
theorem mt_extT : MtM X "list.extend" (rExtT X.K) := by
  intro pins s σ H x vs v us Q I rx rv h
  obtain ⟨l, b, xs, zs, rfl, rfl, hH, hB, hz, q⟩ := h
  cases rx
  obtain ⟨u, rfl, ru⟩ := rv.one
  cases ru
  obtain ⟨z, its, n, r, hl, e⟩ := I.lstM hH
  obtain ⟨its2, r2, ⟨o, ho, hoc, n2, hd⟩, _⟩ := I.tuple hB
  obtain ⟨oc, od, odt, osl⟩ := o
  dsimp only at hoc hd
  subst hoc hd
  have l1 := r.length
  have l2 := r2.length
  have hsz : its.toArray.size + its2.toArray.size ≤ sizeLine := by rw [List.size_toArray, List.size_toArray]; omega
  have hlong : ¬ (!its.toArray.isEmpty && Builtin.List.listTooLong (its.toArray.size + its2.toArray.size)) = true := by
    rw [notLongL hsz, Bool.and_false]
    exact Bool.false_ne_true
  refine call_meets F.slot_list_extend ⟨_, e, rfl⟩ F.entry_list_extend (F.args_list_extend_2 _ _)
    (SeqAt.extend_tupAny l its.toArray n b its2.toArray n2 od osl hlong (by rw [List.size_toArray]; omega) (by omega)) ⟨e, ho, ?_⟩
  refine ⟨.non, _, I.lset (its' := its ++ its2) hH e (by simp) (r.append r2) ?_, rfl, q⟩
  rw [List.length_append]
  omega
/-- xs == [] -/
def rEqNil (K : PySem.W.Frag) : R2 := fun x y H Q => ∃ (a b : Addr) (xs : List V), x = .ref a ∧ y = .ref b ∧ SqL K H a xs ∧ SqL K H b [] ∧ Q (.bl xs.isEmpty) H
theorem op_eqNil (hu : X.A.units + 10 < cLine) : OpR X (compareOp .Eq) (rEqNil X.K) := by
  intro pins s σ H x y v u Q I rx ry h
  obtain ⟨a, b, xs, rfl, rfl, ha, hb, q⟩ := h
  cases rx
  cases ry
  obtain ⟨its, rv, hl, _⟩ := I.list ha
  obtain ⟨its2, rv2, hl2, _⟩ := I.list hb
  have e2 : its2 = [] := by cases rv2; rfl
  subst e2
  cases xs with
  | nil =>
    have e1 : its = [] := by cases rv; rfl
    subst e1
    exact SeqAt.eq_listAt (e := fun _ => true) hl.isList hl2.isList rfl (by omega) (fun j h1 => absurd h1 (by simp)) ⟨.bl _, H, I, rfl, q⟩
  | cons x xs =>
    refine SeqAt.eq_list_lengthsAt hl.isList hl2.isList ?_ (by omega) ⟨.bl _, H, I, rfl, q⟩
    have := rv.length
    cases its with
    | nil => simp at this
    | cons i its => rfl
end
end SrtF
set_option Elab.async false
set_option linter.all false
set_option maxRecDepth 100000
set_option maxHeartbeats 4000000
namespace K1
open PySem PySem.Spec PyProof.Rows L2
/-! ### defs that are run where no repr is under way -/
structure FnG (P : Program) (w : World) (K : PySem.W.Frag) (mg : Str → Option Value) (base : Heap) (k : Nat) (f : Addr) (fd : FuncData) (ps : List Str) (sp : Sp) : Prop where
  len : ∀ vs H Q E, sp vs H Q E → vs.length = ps.length
  run : ∀ (A : Around) (outer : List Env) (s : Shared) (H : Hp) (us : List Value) (vs : List V) (Q : VK) (E : XK), A.guards = some [] → Room k A → Env0 P w K mg base A outer s H → BindsTo s fd ⟨us, []⟩ (ps.zip us) → Vals vs us → sp vs H Q E →
    codeAny (model P w) A (.call (.ref f) ⟨us, []⟩) (CR CX0 outer P w H s Q E) s
/-- a def with its code object -/
structure FunC (K : PySem.W.Frag) (x : Str) (st : Stmt) (f : Addr) (fd : FuncData) (c : Addr) : Prop where
  ex : ∃ (oc : Value) (od : Option Addr) (kV doc pm : Value) (an : Option Addr) (ct : Value) (osl : Array (Option Value)),
    fd = PySem.W.fnOf x x (defArgs st) (defBody st) (defScope st) .none kV doc pm an (.ref c) ct ∧ K.lookup f = some ⟨oc, od, .func fd, osl⟩ ∧ PySem.W.codeIn K (.ref c) x = true
  kp : PySem.W.keepIn K (.ref f) = true
/-- a def by its name -/
structure Dg (P : Program) (w : World) (K : PySem.W.Frag) (mg : Str → Option Value) (base : Heap) (x : Str) (k : Nat) (ps : List Str) (sp : Sp) : Prop where
  ex : ∃ (f : Addr) (fd : FuncData), FnG P w K mg base k f fd ps sp ∧ mg x = some (.ref f) ∧ PySem.W.keepIn K (.ref f) = true ∧ Binds K fd ps []
section
variable {P : Program} {w : World} {K : PySem.W.Frag} {mg : Str → Option Value} {base : Heap}
theorem FunC.okG {x : Str} {st : Stmt} {f c : Addr} {fd : FuncData} {N ps : List Str} {k : Nat} {sp : Sp} (F : FunC K x st f fd c) (S : FnScope N ps (defScope st)) (len : ∀ vs H Q E, sp vs H Q E → vs.length = ps.length)
    (hbody : ∀ (A : Around) (outer : List Env) (s : Shared) (H : Hp) (vs : List V) (Q : VK) (E : XK), A.guards = some [] → Room k (A.deeper (envOfC x (defScope st) s.heap.objs.size f (.ref c))) → sp vs H Q E →
      ∃ t, PSs (cxOf CX0 P w K mg base N x (defScope st) f (.ref c) A outer s H E).nox (defBody st) t ∧ t { nx := fun _ H' => Q .non H', rt := Q } (L2.start N vs) H) : FnG P w K mg base (k + 1) f fd ps sp := by
  obtain ⟨oc, od, kV, doc, pm, an, ct, osl, rfl, lk, hcd⟩ := F.ex
  refine ⟨len, fun A outer s H us vs Q E hg hr e0 hb r hsp => LamX.run_ofS lk hcd S hr e0 hb r (len _ _ _ _ hsp) fun hr' => ?_⟩
  obtain ⟨t, h, q⟩ := hbody A outer s H vs Q E hg hr' hsp
  exact ⟨t, h.nox, q⟩
end
section
variable {X : Cx}
theorem pe_dg {x : Str} {k j : Nat} {ps : List Str} {sp : Sp} {e : Expr} {es : List Expr} {t : TA} {p pos : Pos} (D : Dg X.prog X.w X.K X.mg X.base x k ps sp) (hgd : X.A.guards = some []) (hr : Room j X.A) (ha : PA X (e :: es) t)
    (hk : k ≤ j := by decide) (hg : Gl X x := by rfl) (hdb : (x == ("__debug__" : Str)) = false := by decide) (he : starEach (e :: es) X.env = (false, eval e X.env) :: starEach es X.env := by rfl) (hpl : (backTo pos (starEach es X.env)).any (·.1) = false := by rfl) :
    PE X (.Call (.Name x p) (e :: es) [] pos) (fun σ H Q => t σ H fun vs H1 => sp vs H1 Q E0) := by
  obtain ⟨f, fd, F, hm, kp, hb⟩ := D.ex
  refine ⟨fun pins s σ H Q I h => ?_⟩
  refine wpAny_Call_Name_kw (ld_glob I hg hm ?_ hdb)
  refine PySem.W.callWith_K (h₀ := X.base) I.ok.mod.kin kp (thn (ha.run pos pins s σ H _ I h) fun us s1 hh => ?_) he hpl
  obtain ⟨vs, H1, I1, r, q⟩ := hh
  refine ⟨I1.kIn, ?_⟩
  have hl := F.len _ _ _ _ q
  have bd := hb s1 us I1.kIn (by
    rw [List.append_nil, ← r.length]
    exact hl)
  rw [List.append_nil] at bd
  refine wpAny_call (codeAny_mono (F.run X.A X.stack s1 H1 us vs Q E0 hgd (hr.mono hk) I1.env0 bd r q) fun r s' hq => ?_)
  cases r with
  | error e => exact pass0 pins σ H1 s1 e s' I1 hq
  | ok fl =>
    cases fl with
    | ret u => exact I1.after hq
    | next => exact False.elim hq
    | brk => exact False.elim hq
    | cont => exact False.elim hq
/-! ### repr of data -/
/-- data, or an empty dict -/
inductive Dx (K : PySem.W.Frag) (H : Hp) : V → PyData → Prop where
  | dat {v : V} {d : PyData} (h : Dp K H v d) (l : PyData.canLay0 d = true) : Dx K H v d
  | emp {a : Addr} (h : H a = some (.dK [])) : Dx K H (.ref a) (.dict [])
/-- data of a list or tuple; or a pair of a text and a thing -/
def rRepr (K : PySem.W.Frag) : List V → Hp → VK → Prop := fun xs H Q => ∃ (a : Addr) (d : PyData), xs = [.ref a] ∧
  ((Dp K H (.ref a) d ∧ PyData.canLay0 d = true) ∨ ∃ x y dy, d = .tuple [.str x, dy] ∧ SqT K H a [.str x, y] ∧ Dx K H y dy) ∧ PyData.showable d = true ∧ PyData.depth d ≤ 100 ∧ (PyData.shown d).length ≤ sizeLine ∧ Q (.str (PyData.shown d)) H
theorem dx_reads {pins : List (Addr × Obj)} {σ : L2.St} {H : Hp} {s : Shared} (I : Inv X pins σ H s) {v : V} {d : PyData} {u : Value} (h : Dx X.K H v d) (r : RelV v u) : ∃ as, Reads s.heap u d as ∧ (PyData.hasDict d = true → sysModules ∉ as) := by
  cases h with
  | dat h l =>
    obtain ⟨as, q⟩ := Dp.reads I d v u h r
    exact ⟨as, q, fun z => by
      rw [PyData.hasDict_of_canLay d l] at z
      cases z⟩
  | @emp a h =>
    cases r
    obtain ⟨_, hsys, vs, kv, o, es, ep, e1, e2, e3⟩ := (show ObjOk X.prog X.w H s.heap a (.dK []) from I.hok a _ h)
    have v0 : vs = [] := by
      cases kv
      rfl
    subst v0
    have z0 : es.toList = [] := by
      have z := e3.2.2.1
      cases q : es.toList with
      | nil => rfl
      | cons p r =>
        rw [q] at z
        cases z
    refine ⟨_, Reads.dict (kvs := []) e1 e2.1 e3.1 (by rw [z0]; exact .nil) (by rw [z0]; exact .nil), fun _ hm => ?_⟩
    have ha : sysModules = a := by simpa using hm
    rw [← ha] at hsys
    simp at hsys
theorem call_repr (hg : X.A.guards = some []) (hu : X.A.units + 101 < cLine) : CallR X (.builtin "repr") (rRepr X.K) := by
  intro pins s σ H xs us Q I r h
  obtain ⟨a, d, rfl, hd, hs, hdep, hlen, q⟩ := h
  rw [Vals.ref1 r]
  have fin : ∀ as, Reads s.heap (.ref a) d as → (PyData.hasDict d = true → sysModules ∉ as) → wpAny (model X.prog X.w) X.A (call (.builtin "repr") [.ref a]) (EP X pins σ Q) X.xe s := fun as rd hm =>
    repr_of_reads' rd hs hm hg (by omega) (fun _ _ e => e) (fun h' u tk hk => ⟨.str (PyData.shown d), H, I.kept hk, ⟨u, rfl⟩, q⟩) hlen
  rcases hd with ⟨hd, hl⟩ | ⟨x, y, dy, rfl, ht, hy⟩
  · obtain ⟨as, rd⟩ := Dp.reads I d (.ref a) (.ref a) hd rfl
    exact fin as rd fun z => by
      rw [PyData.hasDict_of_canLay d hl] at z
      cases z
  · obtain ⟨its, rv, ⟨o, ho, hc, n, hd⟩, _⟩ := I.tuple ht
    obtain ⟨u1, u2, rfl, r1, r2⟩ := vals2 rv
    obtain ⟨t, rfl⟩ := r1
    obtain ⟨bs, q2, m2⟩ := dx_reads I hy r2
    refine fin _ (Reads.tuple ho hc hd (ReadsAll.cons (Reads.str x t) (ReadsAll.cons q2 ReadsAll.nil))) fun z hm => ?_
    have z' : PyData.hasDict dy = true := by simpa [PyData.hasDict, PyData.hasDictAll] using z
    exact m2 z' (by simpa using hm)
end
end K1
set_option Elab.async false
set_option linter.all false
set_option maxRecDepth 100000
set_option maxHeartbeats 4000000
namespace K1
open PySem PySem.Spec PyProof.Rows L2
/-! ### the law called, where no repr is under way -/
def oTab : Obj := { cls := .none, data := .fields #[] }
/-- what is tracked at the call: the script (where the written part doesn't hold it), the tables -/
def hp0 (K : PySem.W.Frag) (a : Addr) (T : List Addr) (o : Obj) (xs : List V) : Hp := fun b => if b = a then (if K.lookup a = none then some (.frz o (.lst xs)) else none) else if b ∈ T then some (.tbl #[]) else none
section
variable {K : PySem.W.Frag} {a : Addr} {T : List Addr} {o : Obj} {xs : List V}
theorem hp0_cases (b : Addr) : hp0 K a T o xs b = none ∨ (b ∈ T ∧ b ≠ a ∧ hp0 K a T o xs b = some (.tbl #[])) ∨ (b = a ∧ K.lookup a = none ∧ hp0 K a T o xs b = some (.frz o (.lst xs))) := by
  unfold hp0
  by_cases h1 : b = a
  · by_cases h2 : K.lookup a = none
    · exact .inr (.inr ⟨h1, h2, by rw [if_pos h1, if_pos h2]⟩)
    · exact .inl (by rw [if_pos h1, if_neg h2])
  · by_cases h2 : b ∈ T
    · exact .inr (.inl ⟨h2, h1, by rw [if_neg h1, if_pos h2]⟩)
    · exact .inl (by rw [if_neg h1, if_neg h2])
theorem hp0_tab {b : Addr} (h : b ∈ T) (n : b ≠ a) : hp0 K a T o xs b = some (.tbl #[]) := by
  unfold hp0
  rw [if_neg n, if_pos h]
end
theorem law_callG {P : Program} {w : World} {K : PySem.W.Frag} {mg mb : Str → Option Value} {k : Nat} {fa a : Addr} {cs : List (Addr × Addr)} {fd : FuncData} {x : Str} {sp : Sp} {st : Shared} {us : List Value} {ns : List Int}
    (hK : K.In st.heap) (hN : st.heap.Ns mainGlobals mg) (hB : st.heap.Ns builtinsNs mb) (hBB : ∀ y : Str, y ≠ "__name__" → mb y = bootBuiltins y) (hL : st.heap.NoLimit) (hG : st.gens = #[])
    (tO : ∀ p ∈ cs, st.heap.get? p.2 = some oTab) (tK : ∀ p ∈ cs, K.lookup p.2 = none) (tC : ∀ p ∈ cs, PySem.W.CodeHd st.heap p.1 p.2)
    (hM : ∃ (m : Addr) (om : Obj), mg "__builtins__" = some (.ref m) ∧ m ≠ builtinsNs ∧ st.heap.get? m = some om ∧ om.cls = .type "module" ∧ om.dict = some builtinsNs ∧ om.data = .plain)
    (hA : st.heap.get? a = some { cls := .type "list", data := .seq us.toArray }) (hI : IntsAre us ns) (hl : ns.length ≤ sizeLine) (hr : Room k callerA)
    (F : ∀ base : Heap, K.In base → base.Ns mainGlobals mg → (∀ p ∈ cs, LamX.TabB base mg p.1 p.2) → FnG P w K mg base k fa fd [x] sp) (bd : ∀ (s : Shared) (u : Value), BindsTo s fd ⟨[u], []⟩ [(x, u)])
    (hsp : ∀ H : Hp, (∀ p ∈ cs, H p.2 = some (.tbl #[])) → SqL K H a (ns.map V.int) → sp [.ref a] H (fun v _ => v = .bl true) fun _ _ _ => False) :
    codeAny (model P w) callerA (.call (.ref fa) ⟨[.ref a], []⟩) (fun r s' => r = .ok (.ret (.bool true)) ∧ OldK st.heap s'.heap ∧ s'.os = st.os ∧ AllBare s'.gens) st := by
  have rel := vals_ints hI
  have lenU := hI.length
  generalize hT : cs.map (·.2) = T
  have inT : ∀ p ∈ cs, p.2 ∈ T := fun p hp => hT ▸ List.mem_map.mpr ⟨p, hp, rfl⟩
  have atT : ∀ b ∈ T, st.heap.get? b = some oTab := fun b hb => by
    rw [← hT] at hb
    obtain ⟨p, hp, rfl⟩ := List.mem_map.mp hb
    exact tO p hp
  have offT : ∀ b ∈ T, K.lookup b = none := fun b hb => by
    rw [← hT] at hb
    obtain ⟨p, hp, rfl⟩ := List.mem_map.mp hb
    exact tK p hp
  have naT : ∀ b ∈ T, b ≠ a := fun b hb z => by
    have q := atT b hb
    rw [z, hA] at q
    exact absurd (congrArg Obj.data (Option.some.inj q)) (by intro q; cases q)
  let ol : Obj := { cls := .type "list", data := .seq us.toArray }
  generalize hH : hp0 K a T ol (ns.map V.int) = H
  have cas : ∀ b, H b = none ∨ (b ∈ T ∧ b ≠ a ∧ H b = some (.tbl #[])) ∨ (b = a ∧ K.lookup a = none ∧ H b = some (.frz ol (.lst (ns.map V.int)))) := fun b => by
    rw [← hH]
    exact hp0_cases b
  have tabs : ∀ p ∈ cs, H p.2 = some (.tbl #[]) := fun p hp => by
    rw [← hH]
    exact hp0_tab (inT p hp) (naT _ (inT p hp))
  have lst : SqL K H a (ns.map V.int) := by
    cases q : K.lookup a with
    | none =>
      refine .inl (.inr ⟨ol, ?_⟩)
      rw [← hH]
      unfold hp0
      rw [if_pos rfl, if_pos q]
    | some o =>
      have z := hK a o q
      rw [hA] at z
      cases z
      exact .inr ⟨_, us.toArray, _, q, rfl, rfl, rfl, by rw [List.size_toArray, lenU]; exact hl, by simpa using rel⟩
  have hok : HOk P w H st.heap := fun b u e => by
    rcases cas b with z | ⟨z1, _, z2⟩ | ⟨z1, _, z2⟩
    · rw [z] at e
      cases e
    · rw [z2] at e
      cases e
      exact atT b z1
    · rw [z2] at e
      cases e
      rw [z1]
      exact ⟨hA, by rw [List.length_map]; exact hl, us, _, rel, hA⟩
  -- neither a list nor a table: not tracked
  have free : ∀ {b : Addr} {o : Obj}, st.heap.get? b = some o → (∀ vs n, o.data ≠ .seq vs n) → o.data ≠ .fields #[] → H b = none := fun {b o} e n1 n2 => by
    rcases cas b with z | ⟨z1, _, _⟩ | ⟨z1, _, _⟩
    · exact z
    · rw [atT b z1] at e
      cases e
      exact absurd rfl n2
    · rw [z1, hA] at e
      cases e
      exact absurd rfl (n1 _ _)
  have low : ∀ {b : Addr} {o : Obj}, st.heap.get? b = some o → H b = none → (hidT st.heap H).get? b = some o := fun e n => hidT_get e n
  have dct : ∀ {b : Addr} {m : Str → Option Value}, st.heap.Ns b m → (hidT st.heap H).Ns b m := fun {b m} ⟨o, es, ep, e, d, r⟩ =>
    ⟨o, es, ep, low e (free e (fun vs n z => by rw [d] at z; cases z) fun z => by rw [d] at z; cases z), d, r⟩
  have kIn : K.In (hidT st.heap H) := fun b o e => low (hK b o e) (by
    rcases cas b with z | ⟨z1, _, _⟩ | ⟨z1, z2, _⟩
    · exact z
    · rw [offT b z1] at e
      cases e
    · rw [z1, z2] at e
      cases e)
  have md : L2.Mod K mg (hidT st.heap H) := ⟨kIn, dct hN, ⟨mb, dct hB, hBB⟩, by
    obtain ⟨mc, q1, q2⟩ := hL
    exact ⟨mc, dct q1, q2⟩⟩
  have tbs : ∀ p ∈ cs, LamX.TabB (hidT st.heap H) mg p.1 p.2 := fun p hp => by
    have at0 := tO p hp
    refine ⟨?_, ?_, fun z => ?_⟩
    · obtain ⟨o, vs, file, tf, fl, tg, inF, tx, tt, q1, r1, r2, r3, rest⟩ := tC p hp
      refine ⟨o, vs, file, tf, fl, tg, inF, tx, tt, low q1 (free q1 (fun vs n z => ?_) fun z => ?_), r1, r2, r3, rest⟩
      · rw [r2] at z
        cases z
      · rw [r2] at z
        cases z
        simp at r3
    · obtain ⟨m, om, q1, q2, q3, q4, q5, q6⟩ := hM
      have n1 : m ≠ mainGlobals := fun q => by
        obtain ⟨o, es, ep, e, d, _⟩ := hN
        rw [q, e] at q3
        cases q3
        rw [d] at q6
        cases q6
      have n2 : m ≠ p.2 := fun q => by
        rw [q, at0] at q3
        cases q3
        cases q6
      refine ⟨m, om, q1, q2, n1, n2, low q3 (free q3 (fun vs n z => ?_) fun z => ?_), q4, q5, q6⟩
      · rw [q6] at z
        cases z
      · rw [q6] at z
        cases z
    · obtain ⟨o, es, ep, e, d, _⟩ := hN
      rw [z, at0] at e
      cases e
      cases d
  have ev : Env0 P w K mg (hidT st.heap H) callerA [] st H :=
    ⟨rfl, md, fun b o e => of_hidT e, Nat.le_of_eq (hidT_size _ _), trivial, fun b hb => absurd (show b ∈ ([] : List Addr) from hb) (by simp), hok, .of_eq hG⟩
  refine codeAny_mono ((F _ kIn (dct hN) tbs).run callerA [] st H [.ref a] [.ref a] _ _ rfl hr ev (bd st (.ref a)) (.cons rfl .nil) (hsp H tabs lst)) fun r s' h => ?_
  cases r with
  | error e => exact (show False from h).elim
  | ok fl =>
    cases fl with
    | next => exact False.elim h
    | brk => exact False.elim h
    | cont => exact False.elim h
    | ret u =>
      obtain ⟨v, H', os, bare, un, hok', rv, q⟩ := h
      cases (show v = .bl true from q)
      cases (show u = Value.bool true from rv)
      have keeps : ∀ b o, b ∉ T → st.heap.get? b = some o → s'.heap.get? b = some o := fun b o nb e => by
        rcases cas b with z | ⟨z1, _, _⟩ | ⟨z1, z2, z3⟩
        · exact un.keep b o e z (by intro q; exact absurd (show b ∈ ([] : List Addr) from q) (by simp)) (by simp)
        · exact absurd z1 nb
        · obtain ⟨e2, _⟩ := hok' b _ (un.frzs b _ _ z3)
          rw [z1, hA] at e
          cases e
          exact e2
      have grown : ∀ p ∈ cs, ∃ more : Array Value, s'.heap.get? p.2 = some { cls := .none, data := .fields more } := fun p hp => by
        obtain ⟨more, z⟩ := un.tbls p.2 #[] (tabs p hp)
        exact ⟨_, hok' p.2 _ z⟩
      refine ⟨rfl, ⟨fun b o e => ?_, fun b o e => ?_⟩, os, bare⟩
      · by_cases hb : b ∈ T
        · rw [← hT] at hb
          obtain ⟨p, hp, rfl⟩ := List.mem_map.mp hb
          obtain ⟨more, hm⟩ := grown p hp
          rw [tO p hp] at e
          cases e
          exact .inr (.inl ⟨((tC p hp).tab (tO p hp)).isCodeTable, rfl, #[], more, rfl, by rw [Array.empty_append]; exact hm⟩)
        · exact .inl (keeps b o hb e)
      · by_cases hb : b ∈ T
        · rw [← hT] at hb
          obtain ⟨p, hp, rfl⟩ := List.mem_map.mp hb
          obtain ⟨more, hm⟩ := grown p hp
          exact ⟨_, hm⟩
        · exact ⟨o, keeps b o hb e⟩
/-- what is known of the law at the head's heap -/
def LawG (l : PySem.W.OpenLaw) (w : World) (K : PySem.W.Frag) (k n : Nat) (x : Str) (mg : Str → Option Value) (fa : Addr) (h : Heap) : Prop :=
  ∃ (fd : FuncData) (cs : List (Addr × Addr)) (sp : Sp), (∀ p ∈ cs, h.get? p.2 = some oTab) ∧ (∀ p ∈ cs, K.lookup p.2 = none) ∧ (∀ p ∈ cs, PySem.W.CodeHd h p.1 p.2) ∧ (∀ (s : Shared) (u : Value), BindsTo s fd ⟨[u], []⟩ [(x, u)]) ∧
    (∀ (H : Hp) (a : Addr) (ns : List Int), ns.length ≤ n → (∀ p ∈ cs, H p.2 = some (.tbl #[])) → SqL K H a (ns.map V.int) → sp [.ref a] H (fun v _ => v = .bl true) fun _ _ _ => False) ∧
    ∀ base : Heap, K.In base → base.Ns mainGlobals mg → (∀ p ∈ cs, LamX.TabB base mg p.1 p.2) → FnG l.prog w K mg base k fa fd [x] sp
theorem walk_G {l : PySem.W.OpenLaw} {n k : Nat} {q : Program} {loose : List Str} {XP : (Str → Option Value) → Heap → Prop} {YP : World → Heap → Prop} {d : DefRec} {K : Params → PySem.W.Frag} {x : Str}
    (hn : l.most = some n) (hn2 : n ≤ sizeLine) (hdf : d.params.defaults = []) (hr : Room k callerA) (hY : ∀ (w : World) (h : Heap), YP w h → (K w.params).In h)
    (F : ∀ (w : World) (mg : Str → Option Value) (fa : Addr) (h : Heap), YP w h → (K w.params).In h → h.Ns mainGlobals mg → mg d.name = some (.ref fa) → LawG l w (K w.params) k n x mg fa h) :
    PySem.W.WalkO q loose XP YP l.row.toRowW d [] (fun f vs => PySem.call f vs) := by
  refine Att.attach_callB hn hdf fun w _ st mg mb fa o pm cd doc a us ns G Y _ _ _ hmg hobj hints hlen _ hgen => ?_
  have hK := hY w _ Y
  obtain ⟨fd, cs, sp, h1, h2, h3, h4, h5, h6⟩ := F w mg fa _ Y hK G.T.g hmg
  exact law_callG hK G.T.g G.T.b G.T.builtins G.T.nolimit hgen h1 h2 h3 G.T.bmain hobj hints (Nat.le_trans hlen hn2) hr h6 h4 fun H hH hS => h5 H a ns hlen hH hS
end K1
set_option Elab.async false
set_option linter.all false
set_option maxRecDepth 100000
set_option maxHeartbeats 4000000
namespace K1
open PySem PySem.Spec PyProof.Rows L2
/-! ### things: a text, a tuple, anything else -/
inductive G where
  | s (x : Str)
  | t (ps : List G)
  | l (ps : List G)
  | o (d : PyData)
def isS : G → Bool | .s _ => true | _ => false
def isT : G → Bool | .t _ => true | _ => false
def hd : G → Str | .s x => x | _ => Str.empty
def maxl (ns : List Nat) : Nat := ns.foldr max 0
def text : G → Str
  | .s x => x
  | .t [] => Str.empty
  | .t (h :: ps) => if ps.isEmpty then hd h else hd h ++ Str.ofString "(" ++ Txt.join (Str.ofString ",") (ps.map text) ++ Str.ofString ")"
  | .l _ => Str.empty
  | .o _ => Str.empty
def points : G → Nat
  | .t (_ :: ps) => 1 + (ps.map points).sum
  | _ => 1
def deep : G → Nat
  | .t (_ :: ps) => 1 + maxl (ps.map deep)
  | _ => 1
def wide : G → Nat
  | .t (_ :: ps) => max ps.length (maxl (ps.map wide))
  | _ => 0
def few : G → Bool
  | .t (_ :: ps) => decide (ps.length + 1 < 10) && (ps.map few).all id
  | _ => true
def sz : G → Nat
  | .t ps => 1 + (ps.map sz).sum
  | .l ps => 1 + (ps.map sz).sum
  | _ => 1
def dp : G → Nat
  | .t ps => 1 + maxl (ps.map dp)
  | .l ps => 1 + maxl (ps.map dp)
  | _ => 1
/-- what else may stand in things -/
def oddB : PyData → Bool
  | .none => true
  | .bool _ => true
  | .int i => decide (i.natAbs < 100)
  | .dict [] => true
  | _ => false
def fine : G → Bool
  | .s x => decide (x.length ≤ 10) && PyData.strOk x
  | .t ps => (ps.map fine).all id
  | .l ps => (ps.map fine).all id
  | .o d => oddB d
/-- built as a term: texts, and tuples that begin with one -/
def shp : G → Bool
  | .s _ => true
  | .t (.s _ :: ps) => (ps.map shp).all id
  | _ => false
def toD : G → PyData
  | .s x => .str x
  | .t ps => .tuple (ps.map toD)
  | .l ps => .list (ps.map toD)
  | .o d => d
theorem maxl_le {ns : List Nat} {m : Nat} : maxl ns ≤ m ↔ ∀ n ∈ ns, n ≤ m := by
  induction ns with
  | nil => simp [maxl]
  | cons a r ih =>
    show max a (maxl r) ≤ m ↔ _
    rw [Nat.max_le, ih]
    simp
theorem le_maxl {ns : List Nat} {n : Nat} (h : n ∈ ns) : n ≤ maxl ns := maxl_le.mp (Nat.le_refl _) n h
theorem le_sum {ns : List Nat} {n : Nat} (h : n ∈ ns) : n ≤ ns.sum := by
  induction ns with
  | nil => cases h
  | cons a r ih =>
    rw [List.sum_cons]
    rcases List.mem_cons.mp h with rfl | h
    · omega
    · have := ih h
      omega
theorem len_le_sum {ns : List Nat} (h : ∀ n ∈ ns, 1 ≤ n) : ns.length ≤ ns.sum := by
  induction ns with
  | nil => simp
  | cons a r ih =>
    rw [List.sum_cons, List.length_cons]
    have h1 := h a List.mem_cons_self
    have h2 := ih fun n hn => h n (List.mem_cons_of_mem _ hn)
    omega
theorem dp_l (ps : List G) : dp (.l ps) = 1 + maxl (ps.map dp) := by simp only [dp]
theorem sz_l (ps : List G) : sz (.l ps) = 1 + (ps.map sz).sum := by simp only [sz]
theorem fine_l (ps : List G) : fine (.l ps) = ps.all fine := by
  rw [fine, List.all_map]
  rfl
theorem dp_t (ps : List G) : dp (.t ps) = 1 + maxl (ps.map dp) := by simp only [dp]
theorem sz_t (ps : List G) : sz (.t ps) = 1 + (ps.map sz).sum := by simp only [sz]
theorem fine_t (ps : List G) : fine (.t ps) = ps.all fine := by
  rw [fine, List.all_map]
  rfl
theorem dp_pos (g : G) : 1 ≤ dp g := by
  cases g with
  | t ps => rw [dp_t]; omega
  | l ps => rw [dp_l]; omega
  | _ => simp [dp]
theorem sz_pos (g : G) : 1 ≤ sz g := by
  cases g with
  | t ps => rw [sz_t]; omega
  | l ps => rw [sz_l]; omega
  | _ => simp [sz]
theorem dp_mem {ps : List G} {p : G} {n : Nat} (h : dp (.t ps) ≤ n + 1) (hp : p ∈ ps) : dp p ≤ n := by
  rw [dp_t] at h
  have := le_maxl (List.mem_map.mpr ⟨p, hp, rfl⟩ : dp p ∈ ps.map dp)
  omega
theorem sz_mem {ps : List G} {p : G} (hp : p ∈ ps) : sz p < sz (.t ps) := by
  rw [sz_t]
  have := le_sum (List.mem_map.mpr ⟨p, hp, rfl⟩ : sz p ∈ ps.map sz)
  omega
theorem sz_len (ps : List G) : ps.length < sz (.t ps) := by
  rw [sz_t]
  have := len_le_sum (ns := ps.map sz) fun n hn => by
    obtain ⟨p, _, rfl⟩ := List.mem_map.mp hn
    exact sz_pos p
  rw [List.length_map] at this
  omega
theorem fine_mem {ps : List G} {p : G} (h : fine (.t ps) = true) (hp : p ∈ ps) : fine p = true := by
  rw [fine_t, List.all_eq_true] at h
  exact h p hp
theorem shp_t (x : Str) (ps : List G) : shp (.t (.s x :: ps)) = ps.all shp := by
  rw [shp, List.all_map]
  rfl
theorem shp_cases {g : G} (h : shp g = true) : (∃ x, g = .s x) ∨ ∃ x ps, g = .t (.s x :: ps) ∧ ∀ p ∈ ps, shp p = true := by
  cases g with
  | s x => exact .inl ⟨x, rfl⟩
  | o => simp [shp] at h
  | l ps => simp [shp] at h
  | t ps =>
    cases ps with
    | nil => simp [shp] at h
    | cons q ps =>
      cases q with
      | s x =>
        rw [shp_t, List.all_eq_true] at h
        exact .inr ⟨x, ps, rfl, h⟩
      | _ => simp [shp] at h
theorem text_one (h : G) : text (.t [h]) = hd h := by
  rw [text]
  rfl
theorem text_more (h p : G) (ps : List G) : text (.t (h :: p :: ps)) = hd h ++ Str.ofString "(" ++ Txt.join (Str.ofString ",") ((p :: ps).map text) ++ Str.ofString ")" := by
  rw [text]
  rfl
theorem points_t (h : G) (ps : List G) : points (.t (h :: ps)) = 1 + (ps.map points).sum := by simp only [points]
theorem deep_t (h : G) (ps : List G) : deep (.t (h :: ps)) = 1 + maxl (ps.map deep) := by simp only [deep]
theorem wide_t (h : G) (ps : List G) : wide (.t (h :: ps)) = max ps.length (maxl (ps.map wide)) := by simp only [wide]
theorem few_t (h : G) (ps : List G) : few (.t (h :: ps)) = (decide (ps.length + 1 < 10) && ps.all few) := by
  rw [few, List.all_map]
  rfl
theorem points_pos (g : G) : 1 ≤ points g := by
  cases g with
  | t ps =>
    cases ps with
    | nil => simp [points]
    | cons h ps => rw [points_t]; omega
  | _ => simp [points]
theorem deep_pos (g : G) : 1 ≤ deep g := by
  cases g with
  | t ps =>
    cases ps with
    | nil => simp [deep]
    | cons h ps => rw [deep_t]; omega
  | _ => simp [deep]
theorem join_len (c : Str) : ∀ ys : List Str, (Txt.join c ys).length ≤ (ys.map (·.length)).sum + ys.length * c.length := fun ys => by
  rw [show Txt.join c ys = Str.join c ys from PySem.StrLaws.glued_eq_join _ _]
  induction ys with
  | nil => exact Nat.zero_le _
  | cons y r ih =>
    cases r with
    | nil =>
      show y.length ≤ _
      simp
    | cons z r =>
      show (y ++ c ++ Str.join c (z :: r)).length ≤ _
      rw [app_len, app_len]
      simp only [List.map_cons, List.sum_cons, List.length_cons] at ih ⊢
      rw [Nat.add_mul, Nat.one_mul] at ih ⊢
      rw [Nat.add_mul, Nat.one_mul]
      omega
theorem sum_map_le {α : Type} {f g : α → Nat} : ∀ {l : List α}, (∀ a ∈ l, f a ≤ g a) → (l.map f).sum ≤ (l.map g).sum
  | [], _ => Nat.le_refl _
  | a :: r, h => by
    rw [List.map_cons, List.map_cons, List.sum_cons, List.sum_cons]
    have h1 := h a List.mem_cons_self
    have h2 := sum_map_le (l := r) fun b hb => h b (List.mem_cons_of_mem _ hb)
    omega
theorem hd_len {g : G} (h : fine g = true) : (hd g).length ≤ 10 := by
  cases g with
  | s x =>
    simp only [fine, Bool.and_eq_true, decide_eq_true_iff] at h
    exact h.1
  | _ => exact (by decide +kernel : (Str.empty).length ≤ 10)
theorem sum_mul (c : Nat) : ∀ ns : List Nat, (ns.map fun n => c * n).sum = c * ns.sum
  | [] => rfl
  | n :: r => by
    rw [List.map_cons, List.sum_cons, List.sum_cons, sum_mul c r, Nat.mul_add]
theorem succ_sum : ∀ l : List G, (l.map fun q => (text q).length + 1).sum = (l.map ((fun x => x.length) ∘ text)).sum + l.length
  | [] => rfl
  | a :: r => by
    have ih := succ_sum r
    simp only [List.map_cons, List.sum_cons, List.length_cons, Function.comp] at ih ⊢
    omega
theorem text_len_t (h p : G) (ps : List G) (h0 : (hd h).length ≤ 10) (hq : ∀ q ∈ p :: ps, (text q).length + 1 ≤ 13 * sz q) : (text (.t (h :: p :: ps))).length + 1 ≤ 13 * sz (.t (h :: p :: ps)) := by
  rw [text_more, sz_t, app_len, app_len, app_len]
  have e1 : (Str.ofString "(").length = 1 := by decide +kernel
  have e2 : (Str.ofString ")").length = 1 := by decide +kernel
  have e3 : (Str.ofString ",").length = 1 := by decide +kernel
  rw [e1, e2]
  generalize hl : p :: ps = l at *
  have hj := join_len (Str.ofString ",") (l.map text)
  rw [e3, Nat.mul_one, List.map_map, List.length_map] at hj
  have hs : (l.map fun q => (text q).length + 1).sum ≤ (l.map fun q => 13 * sz q).sum := sum_map_le hq
  have e4 := succ_sum l
  have e5 : (l.map fun q => 13 * sz q).sum = 13 * (l.map sz).sum := by
    rw [← sum_mul, List.map_map]
    rfl
  have h2 := sz_pos h
  rw [List.map_cons, List.sum_cons]
  generalize (l.map sz).sum = S at *
  generalize (l.map ((fun x => x.length) ∘ text)).sum = T at *
  generalize (Txt.join (Str.ofString ",") (l.map text)).length = U at *
  generalize (hd h).length = V at *
  generalize sz h = Z at *
  omega
theorem empty_len : (Str.empty).length = 0 := by decide +kernel
theorem text_len (n : Nat) : ∀ (g : G), dp g ≤ n → fine g = true → (text g).length + 1 ≤ 13 * sz g := by
  induction n with
  | zero =>
    intro g h _
    have := dp_pos g
    omega
  | succ n ih =>
    intro g hdp hf
    cases g with
    | s x =>
      have h2 := hd_len hf
      have h3 := sz_pos (.s x)
      have h4 : text (.s x) = hd (.s x) := by simp [text, hd]
      rw [h4]
      omega
    | o d =>
      have h3 := sz_pos (.o d)
      have h4 : text (.o d) = Str.empty := by simp [text]
      rw [h4, empty_len]
      omega
    | l ps =>
      have h3 := sz_pos (.l ps)
      have h4 : text (.l ps) = Str.empty := by simp [text]
      rw [h4, empty_len]
      omega
    | t gs =>
      cases gs with
      | nil =>
        rw [text, empty_len]
        have := sz_pos (.t [])
        omega
      | cons h r =>
        have h0 := hd_len (fine_mem hf List.mem_cons_self)
        cases r with
        | nil =>
          have h2 := sz_mem (ps := [h]) List.mem_cons_self
          have h3 := sz_pos h
          rw [text_one]
          omega
        | cons p ps => exact text_len_t h p ps h0 fun q hq => ih q (dp_mem hdp (List.mem_cons_of_mem _ hq)) (fine_mem hf (List.mem_cons_of_mem _ hq))
/-! ### how they stand in the heap -/
mutual
inductive In (K : PySem.W.Frag) (H : Hp) : V → G → Prop
  | s (x : Str) : In K H (.str x) (.s x)
  | t {a : Addr} {xs : List V} {gs : List G} (h : SqT K H a xs) (r : InL K H xs gs) : In K H (.ref a) (.t gs)
  | non : In K H .non (.o .none)
  | bl (b : Bool) : In K H (.bl b) (.o (.bool b))
  | int (i : Int) : In K H (.int i) (.o (.int i))
  | lst {a : Addr} {xs : List V} {gs : List G} (h : H a = some (.lst xs)) (r : InL K H xs gs) : In K H (.ref a) (.l gs)
  | dic {a : Addr} (h : H a = some (.dK [])) : In K H (.ref a) (.o (.dict []))
inductive InL (K : PySem.W.Frag) (H : Hp) : List V → List G → Prop
  | nil : InL K H [] []
  | cons {v : V} {vs : List V} {g : G} {gs : List G} : In K H v g → InL K H vs gs → InL K H (v :: vs) (g :: gs)
end
abbrev Ext := LamX.ExtN
theorem Ext.of {H H' : Hp} (s : Same H H') : Ext H H' := LamX.ExtN.of s
theorem Ext.sqt {K : PySem.W.Frag} {H H' : Hp} {a : Addr} {xs : List V} (s : Ext H H') (h : SqT K H a xs) : SqT K H' a xs := by
  rcases h with (h | ⟨o, h⟩) | h
  · exact .inl (.inl (s _ _ h (by intro _ z; cases z)))
  · exact .inl (.inr ⟨o, s _ _ h (by intro _ z; cases z)⟩)
  · exact .inr h
theorem Ext.sql {K : PySem.W.Frag} {H H' : Hp} {a : Addr} {xs : List V} (s : Ext H H') (h : SqL K H a xs) : SqL K H' a xs := by
  rcases h with (h | ⟨o, h⟩) | h
  · exact .inl (.inl (s _ _ h (by intro _ z; cases z)))
  · exact .inl (.inr ⟨o, s _ _ h (by intro _ z; cases z)⟩)
  · exact .inr h
mutual
theorem in_ext {K : PySem.W.Frag} {H H' : Hp} (s : Ext H H') : ∀ (g : G) (v : V), In K H v g → In K H' v g
  | .s _, _, .s x => .s x
  | .t gs, _, .t h r => .t (s.sqt h) (inL_ext s gs _ r)
  | .o _, _, .non => .non
  | .o _, _, .bl b => .bl b
  | .o _, _, .int i => .int i
  | .l gs, _, .lst h r => .lst (s _ _ h (by intro _ z; cases z)) (inL_ext s gs _ r)
  | .o _, _, .dic h => .dic (s _ _ h (by intro _ z; cases z))
theorem inL_ext {K : PySem.W.Frag} {H H' : Hp} (s : Ext H H') : ∀ (gs : List G) (vs : List V), InL K H vs gs → InL K H' vs gs
  | [], _, .nil => .nil
  | g :: gs, _, .cons h t => .cons (in_ext s g _ h) (inL_ext s gs _ t)
end
theorem In.ext {K : PySem.W.Frag} {H H' : Hp} {v : V} {g : G} (s : Ext H H') (h : In K H v g) : In K H' v g := in_ext s g v h
theorem InL.ext {K : PySem.W.Frag} {H H' : Hp} {vs : List V} {gs : List G} (s : Ext H H') (h : InL K H vs gs) : InL K H' vs gs := inL_ext s gs vs h
theorem In.same {K : PySem.W.Frag} {H H' : Hp} {v : V} {g : G} (s : Same H H') (h : In K H v g) : In K H' v g := h.ext (.of s)
theorem InL.same {K : PySem.W.Frag} {H H' : Hp} {vs : List V} {gs : List G} (s : Same H H') (h : InL K H vs gs) : InL K H' vs gs := h.ext (.of s)
theorem InL.len {K : PySem.W.Frag} {H : Hp} : ∀ {vs : List V} {gs : List G}, InL K H vs gs → vs.length = gs.length
  | _, _, .nil => rfl
  | _, _, .cons _ t => by rw [List.length_cons, List.length_cons, t.len]
theorem InL.at {K : PySem.W.Frag} {H : Hp} : ∀ {vs : List V} {gs : List G} {i : Nat} {v : V}, InL K H vs gs → vs[i]? = some v → ∃ g, gs[i]? = some g ∧ In K H v g
  | _, _, i, v, .nil, h => by simp at h
  | _, _, 0, v, .cons (g := g) h _, e => ⟨g, rfl, by
      have e' := Option.some.inj e
      rw [← e']
      exact h⟩
  | _, _, i + 1, v, .cons _ t, e => t.at (i := i) e
theorem InL.get {K : PySem.W.Frag} {H : Hp} : ∀ {vs : List V} {gs : List G} {i : Nat} {g : G}, InL K H vs gs → gs[i]? = some g → ∃ v, vs[i]? = some v ∧ In K H v g
  | _, _, i, v, .nil, h => by simp at h
  | _, _, 0, _, .cons (v := v) h _, e => ⟨v, rfl, by
      have e' := Option.some.inj e
      rw [← e']
      exact h⟩
  | _, _, i + 1, v, .cons _ t, e => t.get (i := i) e
theorem InL.drop {K : PySem.W.Frag} {H : Hp} : ∀ {vs : List V} {gs : List G} (n : Nat), InL K H vs gs → InL K H (vs.drop n) (gs.drop n)
  | _, _, 0, h => h
  | _, _, n + 1, .nil => .nil
  | _, _, n + 1, .cons _ t => t.drop n
theorem InL.take {K : PySem.W.Frag} {H : Hp} : ∀ {vs : List V} {gs : List G} (n : Nat), InL K H vs gs → InL K H (vs.take n) (gs.take n)
  | _, _, 0, _ => .nil
  | _, _, n + 1, .nil => .nil
  | _, _, n + 1, .cons h t => .cons h (t.take n)
theorem InL.app {K : PySem.W.Frag} {H : Hp} : ∀ {vs us : List V} {gs hs : List G}, InL K H vs gs → InL K H us hs → InL K H (vs ++ us) (gs ++ hs)
  | _, _, _, _, .nil, h => h
  | _, _, _, _, .cons h t, h' => .cons h (t.app h')
/-- of what kind -/
theorem In.kind {K : PySem.W.Frag} {H : Hp} {v : V} {g : G} (h : In K H v g) : ∃ d : PyData, TyX K H v (.type (tyOf d)) ∧ isStr d = isS g ∧ isTup d = isT g := by
  cases h with
  | s x => exact ⟨.str x, .base (.str x), rfl, rfl⟩
  | t h _ => exact ⟨.tuple [], tyx_tup h, rfl, rfl⟩
  | non => exact ⟨.none, .base .non, rfl, rfl⟩
  | bl b => exact ⟨.bool b, .base (.bl b), rfl, rfl⟩
  | int i => exact ⟨.int i, .base (.int i), rfl, rfl⟩
  | lst h _ => exact ⟨.list [], .base (.lst h), rfl, rfl⟩
  | dic h => exact ⟨.dict [], .base (.dK h), rfl, rfl⟩
theorem In.str {K : PySem.W.Frag} {H : Hp} {v : V} {x : Str} (h : In K H v (.s x)) : v = .str x := by cases h; rfl
theorem In.tup {K : PySem.W.Frag} {H : Hp} {v : V} {gs : List G} (h : In K H v (.t gs)) : ∃ a xs, v = .ref a ∧ SqT K H a xs ∧ InL K H xs gs := by
  cases h with
  | t h r => exact ⟨_, _, rfl, h, r⟩
theorem inL_dp {K : PySem.W.Frag} {H : Hp} : ∀ (gs : List G) (vs : List V), (∀ g ∈ gs, ∀ v, In K H v g → Dp K H v (toD g)) → InL K H vs gs → DpAll K H vs (gs.map toD)
  | [], _, _, .nil => .nil
  | g :: gs, _, hs, .cons h t => .cons (hs g List.mem_cons_self _ h) (inL_dp gs _ (fun e he => hs e (List.mem_cons_of_mem _ he)) t)
theorem in_dpN {K : PySem.W.Frag} {H : Hp} (n : Nat) : ∀ (g : G) (v : V), dp g ≤ n → shp g = true → In K H v g → Dp K H v (toD g) := by
  induction n with
  | zero =>
    intro g v h
    have := dp_pos g
    omega
  | succ n ih =>
    intro g v hd hs hi
    rcases shp_cases hs with ⟨x, rfl⟩ | ⟨x, ps, rfl, hp⟩
    · rw [hi.str, toD]
      exact .str x
    · obtain ⟨a, xs, rfl, h, r⟩ := hi.tup
      rw [toD]
      refine .tup h (inL_dp _ _ (fun g hg w hw => ?_) r)
      rcases List.mem_cons.mp hg with rfl | hg
      · rw [hw.str, toD]
        exact .str x
      · exact ih g w (dp_mem hd (List.mem_cons_of_mem _ hg)) (hp g hg) hw
theorem in_dp {K : PySem.W.Frag} {H : Hp} (g : G) (v : V) (hs : shp g = true) (h : In K H v g) : Dp K H v (toD g) := in_dpN (dp g) g v (Nat.le_refl _) hs h
end K1
set_option Elab.async false
set_option linter.all false
set_option maxRecDepth 100000
set_option maxHeartbeats 4000000
namespace K1
open PySem PySem.Spec PyProof.Rows L2
/-! ### tuples stand -/
def TupK (H H' : Hp) : Prop := ∀ b o, H b = some o → ((∃ xs, o = .tup xs) ∨ ∃ ob xs, o = .frz ob (.tup xs)) → H' b = some o
theorem TupK.sqt {K : PySem.W.Frag} {H H' : Hp} {a : Addr} {xs : List V} (s : TupK H H') (h : SqT K H a xs) : SqT K H' a xs := by
  rcases h with (h | ⟨o, h⟩) | h
  · exact .inl (.inl (s _ _ h (.inl ⟨_, rfl⟩)))
  · exact .inl (.inr ⟨o, s _ _ h (.inr ⟨_, _, rfl⟩)⟩)
  · exact .inr h
theorem TupK.of {H H' : Hp} (e : Ext H H') : TupK H H' := fun b o h k => e b o h (by
  rintro ps rfl
  rcases k with ⟨xs, z⟩ | ⟨ob, xs, z⟩ <;> cases z)
theorem TupK.off {H H1 : Hp} {D : Addr} {ys : List V} {o : HO} (e : TupK H H1) (h : H1 D = some (.lst ys)) : TupK H (upd H1 D o) := fun b u h1 k => by
  have q := e b u h1 k
  rw [upd_ne (fun z => by
    rw [z, h] at q
    rcases k with ⟨xs, z⟩ | ⟨ob, xs, z⟩ <;> (subst z; cases q))]
  exact q
theorem TupK.trans {H H1 H2 : Hp} (a : TupK H H1) (b : TupK H1 H2) : TupK H H2 := fun c o h k => b c o (a c o h k) k
theorem inL_tk0 {K : PySem.W.Frag} {H H' : Hp} : ∀ (gs : List G) (vs : List V), (∀ g ∈ gs, ∀ v, In K H v g → In K H' v g) → InL K H vs gs → InL K H' vs gs
  | [], _, _, .nil => .nil
  | g :: gs, _, hs, .cons h t => .cons (hs g List.mem_cons_self _ h) (inL_tk0 gs _ (fun e he => hs e (List.mem_cons_of_mem _ he)) t)
theorem in_tkN {K : PySem.W.Frag} {H H' : Hp} (s : TupK H H') (n : Nat) : ∀ (g : G) (v : V), dp g ≤ n → shp g = true → In K H v g → In K H' v g := by
  induction n with
  | zero =>
    intro g v h
    have := dp_pos g
    omega
  | succ n ih =>
    intro g v hd hs hi
    rcases shp_cases hs with ⟨x, rfl⟩ | ⟨x, ps, rfl, hp⟩
    · rw [hi.str]
      exact .s x
    · obtain ⟨a, xs, rfl, h, r⟩ := hi.tup
      refine .t (s.sqt h) (inL_tk0 _ _ (fun g hg w hw => ?_) r)
      rcases List.mem_cons.mp hg with rfl | hg
      · rw [hw.str]
        exact .s x
      · exact ih g w (dp_mem hd (List.mem_cons_of_mem _ hg)) (hp g hg) hw
theorem in_tk {K : PySem.W.Frag} {H H' : Hp} (s : TupK H H') (g : G) (v : V) (hs : shp g = true) (h : In K H v g) : In K H' v g := in_tkN s (dp g) g v (Nat.le_refl _) hs h
theorem inL_tk {K : PySem.W.Frag} {H H' : Hp} (s : TupK H H') (gs : List G) (vs : List V) (hs : ∀ g ∈ gs, shp g = true) (h : InL K H vs gs) : InL K H' vs gs := inL_tk0 gs vs (fun g hg v hv => in_tk s g v (hs g hg) hv) h
open PySem.W (EachIs)
theorem each_app {α β : Type} {R : α → β → Prop} {x : α} {y : β} (h : R x y) : ∀ {as : List α} {bs : List β}, EachIs R as bs → EachIs R (as ++ [x]) (bs ++ [y])
  | _, _, .nil => .cons h .nil
  | _, _, .cons q t => .cons q (each_app h t)
theorem Ext.updD {H1 H : Hp} {D : Addr} {o : HO} (e : Ext H1 H) (h : H1 D = none) : Ext H1 (upd H D o) := fun b u h1 n => by
  rw [upd_ne (ne_of_none h1 h)]
  exact e b u h1 n
theorem Ext.trans {H H1 H2 : Hp} (a : Ext H H1) (b : Ext H1 H2) : Ext H H2 := LamX.ExtN.trans a b
theorem Ext.refl (H : Hp) : Ext H H := LamX.ExtN.refl H
section
variable {K : PySem.W.Frag} {a : Addr} {xs : List V} {gs : List G} {j : Nat} {te : TE} {tt : TT} {σ : L2.St} {H1 : Hp} {D : Addr} {Qd : Hp → Prop} {J : Hp → Prop}
/-- [e for x in xs], xs of things at a tuple: at each turn all stands -/
theorem lc_in (R : Hp → V → G → Prop) (hD : H1 D = none) (hx : SqT K H1 a xs) (hg : InL K H1 xs gs) (hl : xs.length ≤ 100000)
    (mono : ∀ y g H H', R H y g → TupK H H' → R H' y g) (hw : ∀ x, wipe ((wipe σ [j]).set j (some x)) [j] = wipe σ [j])
    (hJ : ∀ H ys ys', J H → H D = some (.lst ys) → J (upd H D (.lst ys'))) (j0 : J (upd H1 D (.lst [])))
    (turn : ∀ x g H, g ∈ gs → In K H x g → Ext H1 H → J H → ∀ Q : VK, (∀ y H', Ext H H' → J H' → R H' y g → Q y H') → te ((wipe σ [j]).set j (some x)) H Q)
    (fin : ∀ H ys, Ext H1 H → J H → H D = some (.lst ys) → EachIs (R H) ys gs → Qd H) :
    ∃ W : Nat → Nat → Hp → Prop, (∃ m, W 0 m (upd H1 D (.lst []))) ∧ ∀ i m H, W i m H →
      ((Itt K a).stop i H ∧ Qd H) ∨ ((Itt K a).go i H ∧ ∃ Nx : Hp → Prop, (∀ H', Nx H' → ∃ m', m' < m ∧ W (i + 1) m' H') ∧ ∀ x H', (Itt K a).yld i H x H' → gName j x (wipe σ [j]) H' fun σ2 H2 => wipe σ2 [j] = wipe σ [j] ∧ tYes σ2 H2 fun b H3 =>
        if b = true then te σ2 H3 fun y H4 => ∃ acc, H4 D = some (.lst acc) ∧ acc.length < sizeLine ∧ Nx (upd H4 D (.lst (acc ++ [y]))) else Nx H3) := by
  refine lc_tup (K := K) (a := a) (xs := xs) (fun i H => Ext H1 H ∧ J H ∧ ∃ ys, H D = some (.lst ys) ∧ EachIs (R H) ys (gs.take i))
    ⟨(Ext.refl H1).updD hD, j0, [], upd_same, .nil⟩ (fun i H _ ⟨e, _⟩ => e.sqt hx) ?_ ?_
  · rintro i x H hi ⟨e, hj, ys, eD, hr⟩
    obtain ⟨g, hgi, hin⟩ := hg.at hi
    have hlen := (List.getElem?_eq_some_iff.mp hi).1
    have hly := hr.length
    rw [List.length_take] at hly
    refine ⟨hw x, ?_⟩
    refine turn x g H (List.mem_of_getElem? hgi) (hin.ext e) e hj _ fun y H' e' hj' r => ?_
    have eD' := e' _ _ eD (by intro _ z; cases z)
    refine ⟨ys, eD', by rw [sizeLine_eq]; omega, (e.trans e').updD hD, hJ _ _ _ hj' eD', ys ++ [y], upd_same, ?_⟩
    rw [take_snoc hgi]
    have off : TupK H' (upd H' D (.lst (ys ++ [y]))) := (TupK.of (Ext.refl H')).off eD'
    exact each_app (mono _ _ _ _ r off) (hr.mono fun y g q => mono _ _ _ _ q ((TupK.of e').trans off))
  · rintro H ⟨e, hj, ys, eD, hr⟩
    rw [hg.len, List.take_length] at hr
    exact fin H ys e hj eD hr
/-- [x for x in xs if test], asked whether it is empty -/
theorem lc_flt (f : G → Bool) (hD : H1 D = none) (hx : SqT K H1 a xs) (hg : InL K H1 xs gs) (hl : xs.length ≤ 100000)
    (hw : ∀ x, wipe ((wipe σ [j]).set j (some x)) [j] = wipe σ [j]) (hj : ∀ x, ((wipe σ [j]).set j (some x))[j]? = some (some x))
    (hJ : ∀ H ys ys', J H → H D = some (.lst ys) → J (upd H D (.lst ys'))) (j0 : J (upd H1 D (.lst [])))
    (turn : ∀ x g H, g ∈ gs → In K H x g → Ext H1 H → J H → ∀ Q : Bool → Hp → Prop, (∀ H', Ext H H' → J H' → Q (f g) H') → tt ((wipe σ [j]).set j (some x)) H Q)
    (fin : ∀ H ys, Ext H1 H → J H → H D = some (.lst ys) → ys.isEmpty = gs.all (fun g => !f g) → Qd H) :
    ∃ W : Nat → Nat → Hp → Prop, (∃ m, W 0 m (upd H1 D (.lst []))) ∧ ∀ i m H, W i m H →
      ((Itt K a).stop i H ∧ Qd H) ∨ ((Itt K a).go i H ∧ ∃ Nx : Hp → Prop, (∀ H', Nx H' → ∃ m', m' < m ∧ W (i + 1) m' H') ∧ ∀ x H', (Itt K a).yld i H x H' → gName j x (wipe σ [j]) H' fun σ2 H2 => wipe σ2 [j] = wipe σ [j] ∧ tt σ2 H2 fun b H3 =>
        if b = true then tVar j σ2 H3 fun y H4 => ∃ acc, H4 D = some (.lst acc) ∧ acc.length < sizeLine ∧ Nx (upd H4 D (.lst (acc ++ [y]))) else Nx H3) := by
  refine lc_tup (K := K) (a := a) (xs := xs) (fun i H => Ext H1 H ∧ J H ∧ ∃ ys, H D = some (.lst ys) ∧ ys.length ≤ i ∧ ys.isEmpty = (gs.take i).all (fun g => !f g))
    ⟨(Ext.refl H1).updD hD, j0, [], upd_same, Nat.le_refl _, rfl⟩ (fun i H _ ⟨e, _⟩ => e.sqt hx) ?_ ?_
  · rintro i x H hi ⟨e, hjj, ys, eD, hl2, hr⟩
    obtain ⟨g, hgi, hin⟩ := hg.at hi
    have hlen := (List.getElem?_eq_some_iff.mp hi).1
    refine ⟨hw x, ?_⟩
    refine turn x g H (List.mem_of_getElem? hgi) (hin.ext e) e hjj _ fun H' e' hj' => ?_
    have eD' := e' _ _ eD (by intro _ z; cases z)
    have ea : ∀ b, ((gs.take i ++ [g]).all (fun g => !f g) = b) ↔ (((gs.take i).all fun g => !f g) && !f g) = b := fun b => by
      rw [List.all_append]
      simp
    refine ite2 (fun hf => ?_) (fun hf => ?_)
    · refine ⟨x, hj x, ys, eD', by rw [sizeLine_eq]; omega, (e.trans e').updD hD, hJ _ _ _ hj' eD', ys ++ [x], upd_same, by rw [List.length_append]; exact Nat.succ_le_succ hl2, ?_⟩
      rw [take_snoc hgi, List.all_append]
      simp [hf]
    · refine ⟨e.trans e', hj', ys, eD', Nat.le_succ_of_le hl2, ?_⟩
      rw [take_snoc hgi, List.all_append, ← hr]
      simp [hf]
  · rintro H ⟨e, hjj, ys, eD, _, hr⟩
    rw [hg.len, List.take_length] at hr
    exact fin H ys e hjj eD hr
end
theorem each_val {β : Type} {f : β → V} : ∀ {ys : List V} {gs : List β}, EachIs (fun y g => y = f g) ys gs → ys = gs.map f
  | _, _, .nil => rfl
  | _, _, .cons h t => by rw [h, each_val t, List.map_cons]
theorem each_in {K : PySem.W.Frag} {H : Hp} {F : G → G} : ∀ {ys : List V} {gs : List G}, EachIs (fun y g => In K H y (F g)) ys gs → InL K H ys (gs.map F)
  | _, _, .nil => .nil
  | _, _, .cons h t => .cons h (each_in t)
/-- a tuple's own parts behind the first -/
theorem cut_1 (xs : List V) : cutV xs (some 1) none = xs.drop 1 := by
  cases xs with
  | nil => rfl
  | cons x r => exact cut_from' (n := 1) (by simp)
where cut_from' {xs : List V} {n : Nat} (h : n ≤ xs.length) : cutV xs (some (n : Int)) none = xs.drop n := by
        unfold cutV
        rw [HT.sIx_none, HT.sIx_nat, Nat.min_eq_left h]
        exact List.take_of_length_le (by rw [List.length_drop]; omega)
theorem whole_1 {xs : List V} (h : xs ≠ []) : ¬ (HT.sIx xs.length 0 (some 1) = 0 ∧ HT.sIx xs.length xs.length (none : Option Int) = xs.length) := by
  intro ⟨z, _⟩
  have e : HT.sIx xs.length 0 (some ((1 : Nat) : Int)) = min 1 xs.length := HT.sIx_nat _ _ _
  have : 0 < xs.length := List.length_pos_iff.mpr h
  rw [show (some (1 : Int)) = some ((1 : Nat) : Int) from rfl, e] at z
  omega
end K1
set_option Elab.async false
set_option linter.all false
set_option maxRecDepth 100000
set_option maxHeartbeats 1000000
namespace K1
open PySem PySem.Spec PyProof.Rows L2
open PySem.W (EachIs)
abbrev bigs : Str := Str.ofString "ABCDEFGHIJKLMNOPQRSTUVWXYZ"
structure Ct (mg : Str → Option Value) : Prop extends Cs mg where
  great : ∃ t, mg "GREAT" = some (.str bigs t)
  glet : ∃ t, mg "GAP_LETTERS" = some (.int 4 t)
theorem iteT_ {c : Prop} [Decidable c] {p q : Prop} (h : c) (hp : p) : if c then p else q := by rw [if_pos h]; exact hp
theorem iteF_ {c : Prop} [Decidable c] {p q : Prop} (h : ¬ c) (hq : q) : if c then p else q := by rw [if_neg h]; exact hq
theorem isi_str {K : PySem.W.Frag} {H : Hp} {v : V} {g : G} (h : In K H v g) : ∃ d : PyData, TyX K H v (.type (tyOf d)) ∧ PySem.W.kitOne K (.type (tyOf d)) (.type "str") = some (isS g) := by
  obtain ⟨d, h1, h2, h3⟩ := h.kind
  exact ⟨d, h1, by rw [← h2]; exact kit_str d⟩
theorem isi_tup {K : PySem.W.Frag} {H : Hp} {v : V} {g : G} (h : In K H v g) : ∃ d : PyData, TyX K H v (.type (tyOf d)) ∧ PySem.W.kitOne K (.type (tyOf d)) (.type "tuple") = some (isT g) := by
  obtain ⟨d, h1, h2, h3⟩ := h.kind
  exact ⟨d, h1, by rw [← h3]; exact kit_tup d⟩
theorem empty_app (y : Str) : Str.empty ++ y = y := ext_l (by rw [app_l]; rfl)
theorem fit_line {n m : Nat} (h : n ≤ m) (hm : m ≤ 100000) : n ≤ sizeLine := by rw [sizeLine_eq]; omega
theorem same_J {H1 H : Hp} {D : Addr} (hD : H1 D = none) : ∀ (H : Hp) (ys ys' : List V), Same H1 H → H D = some (.lst ys) → Same H1 (upd H D (.lst ys')) := fun H ys ys' s e b o h => by
  rw [upd_ne (ne_of_none h hD)]
  exact s b o h
theorem vint_ne {a b : Int} (h : a ≠ b) : ¬ decide (V.int a = V.int b) = true := fun z => h (V.int.inj (of_decide_eq_true z))
theorem vint_eq {a b : Int} (h : a = b) : decide (V.int a = V.int b) = true := decide_eq_true (by rw [h])
def gapB (x : Str) : Bool := decide (1 ≤ x.length ∧ x.length ≤ 4) && (decide (x.cps.toList.headD 0 ∈ bigs.cps.toList) && (x.cps.toList.drop 1).all isLow)
abbrev sGap : Stmt := topS 11
theorem scGap : FnScope ["thing"] ["thing"] (defScope sGap) := ⟨rfl, rfl, rfl, by decide +kernel, rfl, by decide +kernel, by decide +kernel⟩
def gapG : G → Bool
  | .s x => gapB x
  | _ => false
def spGap (K : PySem.W.Frag) : Sp := fun vs H Q _ => ∃ (v : V) (g : G), vs = [v] ∧ In K H v g ∧ (∀ x, g = .s x → x.length ≤ 1000) ∧ ∀ H', Same H H' → Q (.bl (gapG g)) H'
theorem cutS_1 (x : Str) : cutS x (some 1) none = ⟨(x.cps.toList.drop 1).toArray⟩ := by
  have e1 : HT.sIx x.length x.length (none : Option Int) = x.length := rfl
  have e2 : HT.sIx x.length 0 (some ((1 : Nat) : Int)) = min 1 x.length := HT.sIx_nat _ _ _
  show (⟨((x.cps.toList.drop (HT.sIx x.length 0 (some 1))).take (HT.sIx x.length x.length (none : Option Int) - HT.sIx x.length 0 (some 1))).toArray⟩ : Str) = _
  rw [show (some (1 : Int)) = some ((1 : Nat) : Int) from rfl, e1, e2]
  have hl := len_toList x
  congr 2
  by_cases h : 1 ≤ x.length
  · rw [Nat.min_eq_left h]
    exact List.take_of_length_le (by rw [List.length_drop]; omega)
  · have h0 : x.length = 0 := by omega
    have : x.cps.toList = [] := List.eq_nil_of_length_eq_zero (by omega)
    rw [this]
    simp
section
variable {P : Program} {w : World} {K : PySem.W.Frag} {mg : Str → Option Value} {base : Heap}
theorem ok_gap {f : Addr} {fd : FuncData} (F : Fun K "is_gap" "is_gap" sGap f fd) (DS : Df P w K mg base C8.CX0 "is_small" 1 ["text"] spSmall) (T : Ct mg) : FnOk P w K mg base C8.CX0 2 f fd ["thing"] (spGap K) := by
  refine F.ok scGap (fun vs H Q E h => ?_) (fun cdv A outer s H vs Q E hr h => ?_)
  · obtain ⟨v, g, rfl, _⟩ := h
    rfl
  · obtain ⟨v, g, rfl, hin, hf, k⟩ := h
    obtain ⟨_, hgl⟩ := T.glet
    obtain ⟨_, hgr⟩ := T.great
    refine ⟨_, pss_one (ps_ret (pe_and (pe_callB call_isi (by rfl) T.isi boot_isinstance (pa_cons (pv 0) (pa_cons (pe_bltn (v := .ty "str") (by rfl) T.str boot_str rfl) pa_nil)))
      (pe_and (pe_chain op_le op_le pe_int (pe_callB call_len (by rfl) T.len PySem.boot_len (pa_cons (pv 0) pa_nil)) (pe_glob (v := .int 4) (by rfl) hgl ⟨_, rfl⟩))
      (pe_and (pe_cmpR op_in_sign (pe_ix ix_str (pv 0) pe_int (fun _ _ => rfl)) (pe_glob (v := .str bigs) (by rfl) hgr ⟨_, rfl⟩) (by rfl))
      (pe_one (pe_df DS hr pass0 (pa_cons (pe_slice sl_str (pv 0) (po_some pe_int) po_none) pa_nil))))))), ?_⟩
    obtain ⟨d, t1, t2⟩ := isi_str hin
    refine ⟨_, rfl, _, _, _, _, _, rfl, .ty "str", t1, t2, _, rfl, ?_⟩
    cases g with
    | s x =>
      obtain rfl := hin.str
      have hl : x.length ≤ 1000 := hf x rfl
      have hq : ∀ (b : Bool) (H' : Hp), b = gapB x → Same H H' → Q (.bl b) H' := fun b H' e sm => by
        rw [e]
        exact k H' sm
      refine iteT ?_
      refine ⟨_, rfl, .str x, x.length, rfl, ⟨by rw [sizeLine_eq]; omega, rfl⟩, _, _, rfl, rfl, _, rfl, ?_⟩
      refine ite2 (fun h1 => ?_) (fun h1 => ?_)
      · refine ⟨_, _, rfl, rfl, _, rfl, ?_⟩
        refine ite2 (fun h2 => ?_) (fun h2 => ?_)
        · rw [decide_eq_true_iff] at h1 h2
          have hb : decide (1 ≤ x.length ∧ x.length ≤ 4) = true := decide_eq_true (by omega)
          obtain ⟨c, r, hc⟩ : ∃ c r, x.cps.toList = c :: r := by
            cases e : x.cps.toList with
            | nil =>
              have := len_toList x
              rw [e] at this
              simp at this
              omega
            | cons c r => exact ⟨c, r, rfl⟩
          refine ⟨_, rfl, x, 0, c, rfl, rfl, by rw [sizeLine_eq]; omega, ?_, c, bigs, rfl, rfl, _, rfl, ?_⟩
          · rw [hc]
            exact atI_nat (j := 0) rfl
          refine ite2 (fun h3 => ?_) (fun h3 => ?_)
          · refine ⟨_, rfl, _, rfl, x, rfl, by rw [sizeLine_eq]; omega, ?_⟩
            rw [cutS_1, hc]
            refine ⟨_, rfl, ?_, fun H' sm => hq _ H' ?_ sm⟩
            · show (((c :: r).drop 1).toArray).size ≤ 100000
              have := len_toList x
              rw [hc] at this
              simp at this ⊢
              omega
            · unfold gapB
              rw [hb, hc]
              show _ = (true && (decide (c ∈ bigs.cps.toList) && _))
              rw [h3, Bool.true_and, Bool.true_and]
          · refine hq _ H ?_ (Same.refl H)
            unfold gapB
            rw [hb, hc]
            show _ = (true && (decide (c ∈ bigs.cps.toList) && _))
            rw [Bool.true_and]
            have h3' : decide (c ∈ bigs.cps.toList) = false := by simpa using h3
            rw [h3']
            rfl
        · refine hq _ H ?_ (Same.refl H)
          unfold gapB
          rw [decide_eq_true_iff] at h1 h2
          rw [show decide (1 ≤ x.length ∧ x.length ≤ 4) = false from decide_eq_false (by omega), Bool.false_and]
      · refine ⟨_, rfl, hq _ H ?_ (Same.refl H)⟩
        unfold gapB
        rw [decide_eq_true_iff] at h1
        rw [show decide (1 ≤ x.length ∧ x.length ≤ 4) = false from decide_eq_false (by omega), Bool.false_and]
    | _ => exact k H (Same.refl H)
end
theorem name_strOk {z : Str} (h : nameB z = true) : PyData.strOk z = true := by
  unfold nameB at h
  rw [Bool.and_eq_true, List.all_eq_true] at h
  show z.cps.all (· < 0x110000) = true
  rw [Array.all_eq_true_iff_forall_mem]
  intro c hc
  have := h.2 c (by simpa using hc)
  unfold isLow at this
  rw [decide_eq_true_iff] at this
  rw [decide_eq_true_iff]
  omega
end K1
set_option Elab.async false
set_option linter.all false
set_option maxRecDepth 100000
set_option maxHeartbeats 2000000
namespace K1
open PySem PySem.Spec PyProof.Rows L2
open PySem.W (EachIs)
abbrev sIsTitle : Stmt := topS 13
/-! ### titles -/
def dots (x : Str) : List Str := Txt.split x "."
def titleB (x : Str) : Bool := decide ((dots x).length ≤ 2) && (dots x).all nameB
def titleG : G → Bool
  | .s x => titleB x
  | _ => false
theorem spl_len (S : List Nat) : ∀ (k : Nat) (acc l x : List Nat), x ∈ TL.spl S k acc l → x.length ≤ acc.length + l.length
  | k, acc, [], x, h => by
    rw [TL.spl_nil] at h
    obtain rfl := List.mem_singleton.mp h
    simp
  | 0, acc, c :: r, x, h => by
    cases e : TL.pre S (c :: r) with
    | true =>
      rw [TL.spl_hit e] at h
      rcases List.mem_cons.mp h with rfl | h
      · simp
      · have := spl_len S _ _ _ _ h
        simp only [List.length_cons, List.length_nil] at this ⊢
        omega
    | false =>
      rw [TL.spl_miss e] at h
      have := spl_len S _ _ _ _ h
      simp only [List.length_cons, List.length_append, List.length_nil] at this ⊢
      omega
  | k + 1, acc, c :: r, x, h => by
    have := spl_len S k acc r x h
    simp only [List.length_cons] at this ⊢
    omega
theorem dots_eq (x : Str) : dots x = (TL.spl [46] 0 [] x.cps.toList).map SX.S := by
  have e : Str.ofString "." = SX.S [46] := by decide +kernel
  have e2 : SX.S x.cps.toList = x := ext_l rfl
  unfold dots
  rw [e]
  conv => lhs; rw [← e2]
  exact SX.split_S (by decide) (by decide)
theorem dots_len {x y : Str} (h : y ∈ dots x) : y.length ≤ x.length := by
  rw [dots_eq] at h
  obtain ⟨l, hl, rfl⟩ := List.mem_map.mp h
  have := spl_len _ _ _ _ _ hl
  simpa [Str.length] using this
theorem spl_mem (S : List Nat) : ∀ (k : Nat) (acc l x : List Nat), x ∈ TL.spl S k acc l → ∀ c ∈ x, c ∈ acc ∨ c ∈ l
  | k, acc, [], x, h => by
    rw [TL.spl_nil] at h
    obtain rfl := List.mem_singleton.mp h
    exact fun c hc => .inl hc
  | 0, acc, c :: r, x, h => by
    cases e : TL.pre S (c :: r) with
    | true =>
      rw [TL.spl_hit e] at h
      rcases List.mem_cons.mp h with rfl | h
      · exact fun c hc => .inl hc
      · intro c hc
        rcases spl_mem S _ _ _ _ h c hc with z | z
        · cases z
        · exact .inr (List.mem_cons_of_mem _ z)
    | false =>
      rw [TL.spl_miss e] at h
      intro c hc
      rcases spl_mem S _ _ _ _ h c hc with z | z
      · rcases List.mem_append.mp z with z | z
        · exact .inl z
        · exact .inr (by rw [List.mem_singleton.mp z]; exact List.mem_cons_self)
      · exact .inr (List.mem_cons_of_mem _ z)
  | k + 1, acc, c :: r, x, h => by
    intro c hc
    rcases spl_mem S k acc r x h c hc with z | z
    · exact .inl z
    · exact .inr (List.mem_cons_of_mem _ z)
theorem strOk_iff {x : Str} : PyData.strOk x = true ↔ ∀ c ∈ x.cps.toList, c < 1114112 := by
  unfold PyData.strOk
  rw [← Array.all_toList, List.all_eq_true]
  simp
theorem dots_ok {x y : Str} (hx : PyData.strOk x = true) (h : y ∈ dots x) : PyData.strOk y = true := by
  rw [dots_eq] at h
  obtain ⟨l, hl, rfl⟩ := List.mem_map.mp h
  refine strOk_iff.mpr fun c hc => ?_
  rcases spl_mem _ _ _ _ _ hl c hc with z | z
  · cases z
  · exact strOk_iff.mp hx c z
theorem ok_shaped {y : Str} (h : PyData.strOk y = true) : SeqAt.shaped (.str y) = true := by
  unfold SeqAt.shaped
  rw [show (PyData.str y).canLay0 = PyData.strOk y from rfl, h]
  rfl
theorem dots_pos (x : Str) : (dots x).length ≥ 1 := by
  rw [dots_eq, List.length_map]
  have : ∀ (l : List Nat) (k : Nat) (acc : List Nat), 1 ≤ (TL.spl [46] k acc l).length := fun l => by
    induction l with
    | nil => intro k acc; rw [TL.spl_nil]; exact Nat.le_refl _
    | cons c r ih =>
      intro k acc
      cases k with
      | zero =>
        cases e : TL.pre [46] (c :: r) with
        | true => rw [TL.spl_hit e, List.length_cons]; omega
        | false => rw [TL.spl_miss e]; exact ih _ _
      | succ k => exact ih k acc
  exact this _ _ _
theorem dots_count (x : Str) : (dots x).length ≤ x.length + 1 := by
  rw [dots_eq, List.length_map]
  have : ∀ (l : List Nat) (k : Nat) (acc : List Nat), (TL.spl [46] k acc l).length ≤ l.length + 1 := fun l => by
    induction l with
    | nil => intro k acc; rw [TL.spl_nil]; exact Nat.le_refl _
    | cons c r ih =>
      intro k acc
      rw [List.length_cons]
      cases k with
      | zero =>
        cases e : TL.pre [46] (c :: r) with
        | true =>
          rw [TL.spl_hit e, List.length_cons]
          have := ih (List.length [46] - 1) []
          omega
        | false =>
          rw [TL.spl_miss e]
          have := ih 0 (acc ++ [c])
          omega
      | succ k =>
        have := ih k acc
        show (TL.spl [46] k acc r).length ≤ _
        omega
  exact this _ _ _
theorem name_dot {x : Str} (h : nameB x = true) : 46 ∉ x.cps.toList := fun z => by
  have := List.all_eq_true.mp (Bool.and_eq_true_iff.mp h).2 _ z
  revert this
  decide
theorem dots_name {x : Str} (h : nameB x = true) : dots x = [x] := by
  rw [dots_eq, TL.spl_last1 (name_dot h), List.nil_append, List.map_singleton]
theorem dots_two {x y : Str} (h : nameB x = true) (hy : nameB y = true) : dots (x ++ Str.ofString "." ++ y) = [x, y] := by
  have e : (x ++ Str.ofString "." ++ y).cps.toList = x.cps.toList ++ ([46] ++ y.cps.toList) := by
    rw [app_l, app_l, List.append_assoc]
    rfl
  rw [dots_eq, e]
  have z := TL.spl_part1 (s := 46) (S := []) (p := x.cps.toList) (rest := y.cps.toList) (acc := []) (name_dot h)
  rw [show [46] ++ y.cps.toList = (46 :: [] ++ y.cps.toList) from rfl, z, TL.spl_last1 (name_dot hy), List.nil_append, List.nil_append]
  show [SX.S x.cps.toList, SX.S y.cps.toList] = [x, y]
  rw [show SX.S x.cps.toList = x from ext_l rfl, show SX.S y.cps.toList = y from ext_l rfl]
theorem title_name {x : Str} (h : nameB x = true) : titleB x = true := by
  unfold titleB
  rw [dots_name h]
  simp [h]
theorem title_two {x y : Str} (h : nameB x = true) (hy : nameB y = true) : titleB (x ++ Str.ofString "." ++ y) = true := by
  unfold titleB
  rw [dots_two h hy]
  simp [h, hy]
/-- a thing that may be a title -/
def spT (K : PySem.W.Frag) (f : G → Bool) : Sp := fun vs H Q _ => ∃ (v : V) (g : G), vs = [v] ∧ In K H v g ∧ (∀ x, g = .s x → x.length ≤ 1000 ∧ PyData.strOk x = true) ∧ ∀ H', Same H H' → Q (.bl (f g)) H'
section
variable {P : Program} {w : World} {K : PySem.W.Frag} {mg : Str → Option Value} {base : Heap}
abbrev nIsT : List Str := ["thing", "names", "name"]
theorem scIsTitle : FnScope nIsT ["thing"] (defScope sIsTitle) := ⟨rfl, rfl, rfl, by decide +kernel, rfl, by decide +kernel, by decide +kernel⟩
theorem ok_isTitle {f : Addr} {fd : FuncData} (F : Fun K "is_title" "is_title" sIsTitle f fd) (DN : Df P w K mg base C8.CX0 "is_name" 2 ["thing"] (spP K nameD)) (T : Ct mg) : FnOk P w K mg base C8.CX0 3 f fd ["thing"] (spT K titleG) := by
  refine F.ok scIsTitle (fun vs H Q E h => ?_) (fun cdv A outer s H vs Q E hr h => ?_)
  · obtain ⟨v, g, rfl, _⟩ := h
    rfl
  · obtain ⟨v, g, rfl, hin, hx, k⟩ := h
    refine ⟨_, pss_cons (ps_if (pt_not (pt_val (pe_callB call_isi (by rfl) T.isi boot_isinstance (pa_cons (pv 0) (pa_cons (pe_bltn (v := .ty "str") (by rfl) T.str boot_str rfl) pa_nil))))) (pss_one (ps_ret pe_bl)) pss_nil)
      (pss_cons (ps_set (i := 1) scIsTitle.nd rfl (Or.inl rfl) (pe_split (pv 0) pe_str))
      (pss_one (ps_ret (pe_and (pe_cmpR op_le (pe_callB call_len_seq (by rfl) T.len PySem.boot_len (pa_cons (pv 1) pa_nil)) pe_int (nomark _))
        (pe_one (pe_callB (cr_all rfl) (by rfl) T.all (by decide +kernel) (pa_cons (pe_lc (own := [("name", 2)]) (g := gName 2) (tt := tYes) rfl scIsTitle.nd (pi_list (pv 1)) (blkOk_by (N := nIsT) (sc := defScope sIsTitle) (by decide +kernel)) (fun _ _ _ _ _ => pg_name (i := 2) scIsTitle.nd rfl (Or.inl rfl)) (fun _ _ _ _ _ => pts_nil)
          (fun _ _ _ _ _ => pe_df DN hr pass0 (pa_cons (pv 2) pa_nil) (Nat.le_refl _))) pa_nil))))))), ?_⟩
    obtain ⟨d, t1, t2⟩ := isi_str hin
    refine ⟨_, rfl, _, _, _, _, _, rfl, .ty "str", t1, t2, _, rfl, ?_⟩
    cases g with
    | s x =>
      obtain rfl := hin.str
      obtain ⟨hl, hok⟩ := hx x rfl
      have dl := dots_count x
      refine ⟨_, rfl, ⟨_, rfl⟩, x, Str.ofString ".", rfl, rfl, rfl, by rw [sizeLine_eq]; omega, fun p hp => ⟨_, rfl, p, (dots x).map V.str, rfl, .inl (SqL.of upd_same), _, _, rfl, rfl, _, rfl, ?_⟩⟩
      have sp := Same.new (o := .lst ((dots x).map V.str)) (Same.refl H) hp
      rw [List.length_map]
      have k' : ∀ H', Same H H' → Q (.bl (titleB x)) H' := k
      refine ite2 (fun h => ?_) (fun h => ?_)
      · rw [decide_eq_true_iff] at h
        refine ⟨_, rfl, p, rfl, ⟨_, SqL.of upd_same⟩, fun D hD => ?_⟩
        refine lc_list (K := K) (a := p) (xs := (dots x).map V.str) (fun i H' => Same (upd H p (.lst ((dots x).map V.str))) H' ∧ H' D = some (.lst ((((dots x).take i).map nameB).map V.bl))) ⟨Same.new (Same.refl _) hD, upd_same⟩ (fun i H' _ h => SqL.of (h.1 _ _ upd_same)) ?_ ?_
        · rintro i v H' hi ⟨s6, eD⟩
          rw [List.getElem?_map, Option.map_eq_some_iff] at hi
          obtain ⟨y, hy, rfl⟩ := hi
          have hyl := dots_len (List.mem_of_getElem? hy)
          refine ⟨rfl, _, rfl, .str y, .str y, rfl, .dat (.str y), ?_, fun H2 s2 => ⟨_, s2 _ _ eD, ?_, fun c o e => ?_, ?_⟩⟩
          · show (fineD (.str y) && SeqAt.shaped (.str y)) = true
            rw [show fineD (.str y) = decide (y.length ≤ 1000) from rfl, decide_eq_true (by omega), Bool.true_and]
            exact ok_shaped (dots_ok hok (List.mem_of_getElem? hy))
          · rw [List.length_map, List.length_map, List.length_take, sizeLine_eq]
            omega
          · rw [upd_ne (ne_of_none e hD)]
            exact s2 _ _ (s6 _ _ e)
          · rw [upd_same, take_snoc hy, List.map_append, List.map_append]
            rfl
        · rintro H2 ⟨s2, eD⟩
          rw [List.length_map, List.take_length] at eD
          refine ⟨D, _, rfl, SqL.of eD, ?_⟩
          have q1 := k' H2 (sp.trans s2)
          have e : titleB x = (((dots x).map nameB).all id) := by
            unfold titleB
            rw [decide_eq_true (show (dots x).length ≤ 2 by omega), Bool.true_and, List.all_map]
            rfl
          rw [e] at q1
          exact q1
      · rw [decide_eq_true_iff] at h
        have q1 := k' _ sp
        have e : titleB x = false := by
          unfold titleB
          rw [decide_eq_false (show ¬ (dots x).length ≤ 2 by omega), Bool.false_and]
        rw [e] at q1
        exact q1
    | _ => exact k H (Same.refl H)
end
end K1
set_option Elab.async false
set_option linter.all false
set_option maxRecDepth 100000
set_option maxHeartbeats 1000000
namespace K1
open PySem PySem.Spec PyProof.Rows L2
open PySem.W (EachIs)
abbrev oP : Str := Str.ofString "("
abbrev cP : Str := Str.ofString ")"
abbrev cm : Str := Str.ofString ","
def isMk (x : Str) : Bool := decide (x ∈ [oP, cP, cm])
def ch (c : Nat) : Str := ⟨#[c]⟩
theorem ch_l (c : Nat) : (ch c).cps.toList = [c] := rfl
def sepT : List (List Str) → List Str
  | [] => []
  | [a] => a
  | a :: b :: r => a ++ cm :: sepT (b :: r)
/-- the words of a thing's text -/
def toks : G → List Str
  | .s x => [x]
  | .t (h :: ps) => if ps.isEmpty then [hd h] else hd h :: oP :: (sepT (ps.map toks) ++ [cP])
  | _ => []
theorem toks_s (x : Str) : toks (.s x) = [x] := by simp only [toks]
theorem toks_1 (h : G) : toks (.t [h]) = [hd h] := by simp [toks]
theorem toks_t (h p : G) (ps : List G) : toks (.t (h :: p :: ps)) = hd h :: oP :: (sepT ((p :: ps).map toks) ++ [cP]) := by rw [toks]; simp
def wst (s : List Str × Str) (c : Nat) : List Str × Str := if isMk (ch c) then (s.1 ++ (if s.2 = Str.empty then [ch c] else [s.2, ch c]), Str.empty) else (s.1, s.2 ++ ch c)
def wend (s : List Str × Str) : List Str := if s.2 = Str.empty then s.1 else s.1 ++ [s.2]
def wrun (x : Str) : List Str := wend (x.cps.toList.foldl wst ([], Str.empty))
theorem wst_mark {s : List Str × Str} {c : Nat} (h : isMk (ch c) = true) : wst s c = (wend s ++ [ch c], Str.empty) := by
  unfold wst wend
  rw [if_pos h]
  by_cases e : s.2 = Str.empty
  · rw [if_pos e, if_pos e]
  · rw [if_neg e, if_neg e, List.append_assoc]
    rfl
theorem isMk_cp {c : Nat} : isMk (ch c) = true ↔ c = 40 ∨ c = 41 ∨ c = 44 := by
  have e1 : oP = ch 40 := by decide +kernel
  have e2 : cP = ch 41 := by decide +kernel
  have e3 : cm = ch 44 := by decide +kernel
  have inj : ∀ {a b : Nat}, ch a = ch b ↔ a = b := fun {a b} => ⟨fun e => by
    have := congrArg (fun s : Str => s.cps.toList) e
    simpa [ch] using this, fun e => by rw [e]⟩
  unfold isMk
  rw [decide_eq_true_iff, e1, e2, e3]
  simp [inj]
theorem wst_name : ∀ (cs : List Nat) (ws : List Str) (w : Str), (∀ c ∈ cs, isMk (ch c) = false) → cs.foldl wst (ws, w) = (ws, ⟨(w.cps.toList ++ cs).toArray⟩)
  | [], ws, w, _ => by simp
  | c :: cs, ws, w, h => by
    rw [List.foldl_cons]
    have h1 : wst (ws, w) c = (ws, w ++ ch c) := by
      unfold wst
      rw [if_neg (by rw [h c List.mem_cons_self]; exact Bool.false_ne_true)]
    rw [h1, wst_name cs ws _ fun d hd => h d (List.mem_cons_of_mem _ hd), app_l, ch_l, List.append_assoc]
    rfl
theorem joinS_l (a b : Str) (r : List Str) : (Txt.join cm (a :: b :: r)).cps.toList = a.cps.toList ++ 44 :: (Txt.join cm (b :: r)).cps.toList := by
  rw [show Txt.join cm (a :: b :: r) = Str.join cm (a :: b :: r) from PySem.StrLaws.glued_eq_join _ _, show Txt.join cm (b :: r) = Str.join cm (b :: r) from PySem.StrLaws.glued_eq_join _ _]
  show (a ++ cm ++ Str.join cm (b :: r)).cps.toList = _
  rw [app_l, app_l, show cm.cps.toList = [44] by decide +kernel, List.append_assoc]
  rfl
theorem join1_l (a : Str) : (Txt.join cm [a]).cps.toList = a.cps.toList := by
  rw [show Txt.join cm [a] = Str.join cm [a] from PySem.StrLaws.glued_eq_join _ _]
  rfl
theorem ch40 : ch 40 = oP := by decide +kernel
theorem ch41 : ch 41 = cP := by decide +kernel
theorem ch44 : ch 44 = cm := by decide +kernel
/-- read word by word it comes to these words -/
def Rd1 (x : Str) (ts : List Str) : Prop := ∀ ws : List Str, wend (x.cps.toList.foldl wst (ws, Str.empty)) = ws ++ ts
theorem rd_mark {x : Str} {ts : List Str} (h : Rd1 x ts) (c : Nat) (hc : isMk (ch c) = true) (cs : List Nat) (ws : List Str) : (x.cps.toList ++ c :: cs).foldl wst (ws, Str.empty) = cs.foldl wst (ws ++ ts ++ [ch c], Str.empty) := by
  rw [List.foldl_append, List.foldl_cons, wst_mark hc, h ws]
theorem rd_join : ∀ (gs : List G), gs ≠ [] → (∀ g ∈ gs, Rd1 (text g) (toks g)) → Rd1 (Txt.join cm (gs.map text)) (sepT (gs.map toks))
  | [], h, _ => absurd rfl h
  | [g], _, h => by
    intro ws
    rw [List.map_cons, List.map_nil, join1_l, h g List.mem_cons_self ws]
    rfl
  | g :: p :: gs, _, h => by
    intro ws
    have ih := rd_join (p :: gs) (by simp) fun q hq => h q (List.mem_cons_of_mem _ hq)
    show wend ((Txt.join cm (text g :: text p :: gs.map text)).cps.toList.foldl wst (ws, Str.empty)) = ws ++ (toks g ++ cm :: sepT ((p :: gs).map toks))
    rw [joinS_l, rd_mark (h g List.mem_cons_self) 44 (by decide +kernel), ch44]
    have := ih (ws ++ toks g ++ [cm])
    rw [List.map_cons] at this
    rw [this]
    simp
theorem name_marks {x : Str} (h : nameB x = true ∨ gapB x = true) : ∀ c ∈ x.cps.toList, isMk (ch c) = false := fun c hc => by
  have key : isLow c = true ∨ c ∈ bigs.cps.toList := by
    rcases h with h | h
    · exact .inl (List.all_eq_true.mp (Bool.and_eq_true_iff.mp h).2 c hc)
    · obtain ⟨h1, h2⟩ := Bool.and_eq_true_iff.mp h
      obtain ⟨h3, h4⟩ := Bool.and_eq_true_iff.mp h2
      cases e : x.cps.toList with
      | nil => rw [e] at hc; cases hc
      | cons a r =>
        rw [e] at hc h3 h4
        rcases List.mem_cons.mp hc with rfl | hc
        · exact .inr (of_decide_eq_true h3)
        · exact .inl (List.all_eq_true.mp h4 c hc)
  have big : ∀ c ∈ bigs.cps.toList, 65 ≤ c := by decide +kernel
  cases q : isMk (ch c) with
  | false => rfl
  | true =>
    have := isMk_cp.mp q
    rcases key with k | k
    · unfold isLow at k
      have := of_decide_eq_true k
      omega
    · have := big c k
      omega
theorem ne_name {x : Str} (h : nameB x = true ∨ gapB x = true) : x ≠ Str.empty := fun e => by
  rw [e] at h
  rcases h with h | h <;> revert h <;> decide +kernel
theorem hd_s (h : Str) : hd (.s h) = h := by simp [hd]
/-- the parser's state: lists that wait, parts, whether a part is wanted -/
structure PSt where
  wait : List (List G)
  parts : List G
  want : Bool
def leafG (x : Str) : G := if gapB x then .s x else .t [.s x]
def pclose (ps made : List G) : Option (List G) := match ps.getLast? with
  | some (.t qs) => some (ps.dropLast ++ [.t (qs ++ made)])
  | _ => none
/-- one word -/
def pst (prev : Option Str) (s : PSt) (x : Str) : Option PSt :=
  if s.want = true ∧ isMk x = false then some ⟨s.wait, s.parts ++ [leafG x], false⟩
  else if x = oP ∧ (∃ y, prev = some y ∧ isMk y = false ∧ gapB y = false) then some ⟨s.wait ++ [s.parts], [], true⟩
  else if x = cm ∧ s.want = false ∧ s.wait ≠ [] then some ⟨s.wait, s.parts, true⟩
  else if x = cP ∧ s.want = false then (match s.wait.getLast? with
    | some ps => (pclose ps s.parts).map fun q => ⟨s.wait.dropLast, q, false⟩
    | none => none)
  else none
def pf (a : Option (PSt × Option Str)) (x : Str) : Option (PSt × Option Str) := a.bind fun z => (pst z.2 z.1 x).map fun s => (s, some x)
theorem pf_word {w : List (List G)} {ps : List G} {pv : Option Str} {x : Str} (h : isMk x = false) : pf (some (⟨w, ps, true⟩, pv)) x = some (⟨w, ps ++ [leafG x], false⟩, some x) := by
  show (pst pv ⟨w, ps, true⟩ x).map _ = _
  unfold pst
  rw [if_pos ⟨rfl, h⟩]
  rfl
theorem pf_comma {w : List (List G)} {ps : List G} {pv : Option Str} (h : w ≠ []) : pf (some (⟨w, ps, false⟩, pv)) cm = some (⟨w, ps, true⟩, some cm) := by
  show (pst pv ⟨w, ps, false⟩ cm).map _ = _
  unfold pst
  rw [if_neg (by simp), if_neg (fun z => absurd z.1 (by decide +kernel)), if_pos ⟨rfl, rfl, h⟩]
  rfl
theorem pf_close {w : List (List G)} {ps made qs : List G} {pv : Option Str} : pf (some (⟨w ++ [ps ++ [.t qs]], made, false⟩, pv)) cP = some (⟨w, ps ++ [.t (qs ++ made)], false⟩, some cP) := by
  show (pst pv ⟨w ++ [ps ++ [.t qs]], made, false⟩ cP).map _ = _
  unfold pst
  rw [if_neg (by simp), if_neg (fun z => absurd z.1 (by decide +kernel)), if_neg (fun z => absurd z.1 (by decide +kernel)), if_pos ⟨rfl, rfl⟩]
  simp [pclose]
theorem name_nogap {x : Str} (h : nameB x = true) : gapB x = false := by
  cases q : gapB x with
  | false => rfl
  | true =>
    obtain ⟨h1, h2⟩ := Bool.and_eq_true_iff.mp q
    obtain ⟨h3, h4⟩ := Bool.and_eq_true_iff.mp h2
    obtain ⟨k1, k2⟩ := Bool.and_eq_true_iff.mp h
    have l1 := (of_decide_eq_true k1).1
    cases e : x.cps.toList with
    | nil =>
      rw [← len_toList, e] at l1
      simp at l1
    | cons a r =>
      rw [e] at h3 k2
      have m := of_decide_eq_true h3
      have lo := List.all_eq_true.mp k2 a List.mem_cons_self
      have big : ∀ c ∈ bigs.cps.toList, c ≤ 90 := by decide +kernel
      have := big a m
      unfold isLow at lo
      have := of_decide_eq_true lo
      omega
theorem leaf_gap {x : Str} (h : gapB x = true) : leafG x = .s x := if_pos h

/-- a word: not empty, no mark in it -/
def tokB (w : Str) : Bool := decide (w ≠ Str.empty) && w.cps.toList.all fun c => !isMk (ch c)
theorem tok_marks {x : Str} (h : tokB x = true) : ∀ c ∈ x.cps.toList, isMk (ch c) = false := fun c hc => by
  have := List.all_eq_true.mp (Bool.and_eq_true_iff.mp h).2 c hc
  simpa using this
theorem tok_ne {x : Str} (h : tokB x = true) : x ≠ Str.empty := of_decide_eq_true (Bool.and_eq_true_iff.mp h).1
theorem tok_mk {x : Str} (h1 : x ≠ Str.empty) (h2 : ∀ c ∈ x.cps.toList, isMk (ch c) = false) : tokB x = true := by
  unfold tokB
  rw [decide_eq_true h1, Bool.true_and, List.all_eq_true]
  intro c hc
  rw [h2 c hc]
  rfl
theorem tok_of {x : Str} (h : nameB x = true ∨ gapB x = true) : tokB x = true := tok_mk (ne_name h) (name_marks h)
theorem isMk_cases {x : Str} (h : isMk x = true) : x = oP ∨ x = cP ∨ x = cm := by
  unfold isMk at h
  simpa using of_decide_eq_true h
theorem mk_no {x : Str} (h : tokB x = true) : isMk x = false := by
  cases q : isMk x with
  | false => rfl
  | true =>
    exfalso
    rcases isMk_cases q with rfl | rfl | rfl
    · have := tok_marks h 40 (by decide +kernel)
      revert this; decide +kernel
    · have := tok_marks h 41 (by decide +kernel)
      revert this; decide +kernel
    · have := tok_marks h 44 (by decide +kernel)
      revert this; decide +kernel
theorem wst_tok {x : Str} (h : tokB x = true) (ws : List Str) : x.cps.toList.foldl wst (ws, Str.empty) = (ws, x) := by
  rw [wst_name _ _ _ (tok_marks h)]
  have : (⟨(Str.empty.cps.toList ++ x.cps.toList).toArray⟩ : Str) = x := ext_l (by simp [Str.empty])
  rw [this]
/-- a tree of words -/
def wgT : G → Bool
  | .s x => gapB x
  | .t (.s h :: ps) => tokB h && (!gapB h && (ps.map wgT).all id)
  | _ => false
theorem wgT_t (h : Str) (ps : List G) : wgT (.t (.s h :: ps)) = (tokB h && (!gapB h && ps.all wgT)) := by
  rw [wgT, List.all_map]
  rfl
theorem wgT_s (x : Str) : wgT (.s x) = gapB x := by rw [wgT]
theorem rd_tree (n : Nat) : ∀ g, dp g ≤ n → wgT g = true → Rd1 (text g) (toks g) := by
  induction n with
  | zero =>
    intro g h
    have := dp_pos g
    omega
  | succ n ih =>
    intro g hd' hg
    cases g with
    | s x =>
      intro ws
      have hx : tokB x = true := tok_of (.inr (by simpa [wgT] using hg))
      rw [toks_s, show text (.s x) = x by simp [text], wst_tok hx]
      unfold wend
      rw [if_neg (tok_ne hx)]
    | l ps => simp [wgT] at hg
    | o d => simp [wgT] at hg
    | t ps =>
      cases ps with
      | nil => simp [wgT] at hg
      | cons h ps =>
        cases h with
        | s x =>
          rw [wgT_t, Bool.and_eq_true_iff, Bool.and_eq_true_iff] at hg
          have hx := hg.1
          have hp : ∀ p ∈ ps, Rd1 (text p) (toks p) := fun p hp => ih p (dp_mem hd' (List.mem_cons_of_mem _ hp)) (List.all_eq_true.mp hg.2.2 p hp)
          cases ps with
          | nil =>
            intro ws
            rw [text_one, toks_1, hd_s, wst_tok hx]
            unfold wend
            rw [if_neg (tok_ne hx)]
          | cons p ps =>
            intro ws
            have hj := rd_join (p :: ps) (by simp) hp
            rw [text_more, toks_t, hd_s]
            have e : (x ++ Str.ofString "(" ++ Txt.join (Str.ofString ",") ((p :: ps).map text) ++ Str.ofString ")").cps.toList = x.cps.toList ++ 40 :: ((Txt.join cm ((p :: ps).map text)).cps.toList ++ 41 :: []) := by
              rw [app_l, app_l, app_l, show (Str.ofString "(").cps.toList = [40] by decide +kernel, show (Str.ofString ")").cps.toList = [41] by decide +kernel]
              simp
            have hx1 : Rd1 x [x] := fun ws => by
              rw [wst_tok hx]
              unfold wend
              rw [if_neg (tok_ne hx)]
            rw [e, rd_mark hx1 40 (by decide +kernel), ch40, rd_mark hj 41 (by decide +kernel), ch41, List.foldl_nil]
            simp [wend]
        | _ => simp [wgT] at hg
theorem words_tree {g : G} (h : wgT g = true) : wrun (text g) = toks g := by
  have := rd_tree _ g (Nat.le_refl _) h []
  simpa [wrun] using this
/-- all these words' signs -/
def catL (ws : List Str) : List Nat := (ws.map fun w => w.cps.toList).flatten
theorem catL_app (a b : List Str) : catL (a ++ b) = catL a ++ catL b := by simp [catL]
def Wd0 (w : Str) : Prop := isMk w = true ∨ tokB w = true
theorem wst_cat (cs : List Nat) : ∀ s : List Str × Str, (∀ w ∈ s.1, Wd0 w) → (∀ c ∈ s.2.cps.toList, isMk (ch c) = false) → catL (wend (cs.foldl wst s)) = catL (wend s) ++ cs ∧ ∀ w ∈ wend (cs.foldl wst s), Wd0 w := by
  have hend : ∀ s : List Str × Str, (∀ w ∈ s.1, Wd0 w) → (∀ c ∈ s.2.cps.toList, isMk (ch c) = false) → (∀ w ∈ wend s, Wd0 w) ∧ catL (wend s) = catL s.1 ++ s.2.cps.toList := fun s h1 h2 => by
    unfold wend
    split
    · next e => exact ⟨h1, by rw [e]; simp [Str.empty]⟩
    · next e =>
      refine ⟨fun w hw => ?_, by rw [catL_app]; simp [catL]⟩
      rcases List.mem_append.mp hw with hw | hw
      · exact h1 w hw
      · rw [List.mem_singleton.mp hw]
        exact .inr (tok_mk e h2)
  induction cs with
  | nil => exact fun s h1 h2 => ⟨by simp, (hend s h1 h2).1⟩
  | cons c cs ih =>
    intro s h1 h2
    rw [List.foldl_cons]
    obtain ⟨e1, e2⟩ := hend s h1 h2
    cases q : isMk (ch c) with
    | true =>
      rw [wst_mark q]
      have hw : ∀ w ∈ wend s ++ [ch c], Wd0 w := fun w hw => by
        rcases List.mem_append.mp hw with hw | hw
        · exact e1 w hw
        · rw [List.mem_singleton.mp hw]
          exact .inl q
      obtain ⟨a, b⟩ := ih (wend s ++ [ch c], Str.empty) hw (by simp [Str.empty])
      refine ⟨?_, b⟩
      rw [a]
      have : wend (wend s ++ [ch c], Str.empty) = wend s ++ [ch c] := if_pos rfl
      rw [this, catL_app]
      simp [catL, ch]
    | false =>
      have hs : wst s c = (s.1, s.2 ++ ch c) := by
        unfold wst
        rw [if_neg (by rw [q]; exact Bool.false_ne_true)]
      have h2' : ∀ d ∈ (s.2 ++ ch c).cps.toList, isMk (ch d) = false := fun d hd => by
        rw [app_l, ch_l] at hd
        rcases List.mem_append.mp hd with hd | hd
        · exact h2 d hd
        · rw [List.mem_singleton.mp hd]
          exact q
      rw [hs]
      obtain ⟨a, b⟩ := ih (s.1, s.2 ++ ch c) h1 h2'
      refine ⟨?_, b⟩
      rw [a, (hend (s.1, s.2 ++ ch c) h1 h2').2, e2]
      show catL s.1 ++ (s.2 ++ ch c).cps.toList ++ cs = _
      rw [app_l, ch_l]
      simp
theorem wrun_cat (x : Str) : catL (wrun x) = x.cps.toList ∧ ∀ w ∈ wrun x, Wd0 w := by
  obtain ⟨a, b⟩ := wst_cat x.cps.toList ([], Str.empty) (by simp) (by simp [Str.empty])
  refine ⟨?_, b⟩
  unfold wrun
  rw [a]
  simp [wend, catL]
theorem toks_cat {g : G} (h : wgT g = true) : catL (toks g) = (text g).cps.toList := by rw [← words_tree h, (wrun_cat _).1]
theorem pf_openT {w : List (List G)} {ps : List G} {y : Str} (h : tokB y = true) (hg : gapB y = false) : pf (some (⟨w, ps, false⟩, some y)) oP = some (⟨w ++ [ps], [], true⟩, some oP) := by
  show (pst (some y) ⟨w, ps, false⟩ oP).map _ = _
  unfold pst
  rw [if_neg (by simp), if_pos ⟨rfl, y, rfl, mk_no h, hg⟩]
  rfl
theorem run_j : ∀ (gs : List G), gs ≠ [] → (∀ g ∈ gs, ∀ w ps pv, ∃ y, (toks g).foldl pf (some (⟨w, ps, true⟩, pv)) = some (⟨w, ps ++ [g], false⟩, some y)) → ∀ w ps pv, w ≠ [] → ∃ y, (sepT (gs.map toks)).foldl pf (some (⟨w, ps, true⟩, pv)) = some (⟨w, ps ++ gs, false⟩, some y)
  | [], h, _, _, _, _, _ => absurd rfl h
  | [g], _, h, w, ps, pv, _ => h g List.mem_cons_self w ps pv
  | g :: p :: gs, _, h, w, ps, pv, hw => by
    obtain ⟨y, e⟩ := h g List.mem_cons_self w ps pv
    show ∃ y, (toks g ++ cm :: sepT ((p :: gs).map toks)).foldl pf _ = _
    rw [List.foldl_append, e, List.foldl_cons, pf_comma hw]
    obtain ⟨z, e2⟩ := run_j (p :: gs) (by simp) (fun q hq => h q (List.mem_cons_of_mem _ hq)) w (ps ++ [g]) (some cm) hw
    refine ⟨z, ?_⟩
    rw [e2]
    simp
theorem run_tree (n : Nat) : ∀ g, dp g ≤ n → wgT g = true → ∀ w ps pv, ∃ y, (toks g).foldl pf (some (⟨w, ps, true⟩, pv)) = some (⟨w, ps ++ [g], false⟩, some y) := by
  induction n with
  | zero =>
    intro g h
    have := dp_pos g
    omega
  | succ n ih =>
    intro g hd' hg w ps pv
    cases g with
    | s x =>
      have hx : gapB x = true := by simpa [wgT] using hg
      exact ⟨x, by rw [toks_s, List.foldl_cons, pf_word (mk_no (tok_of (.inr hx))), leaf_gap hx, List.foldl_nil]⟩
    | l qs => simp [wgT] at hg
    | o d => simp [wgT] at hg
    | t qs =>
      cases qs with
      | nil => simp [wgT] at hg
      | cons h qs =>
        cases h with
        | s x =>
          rw [wgT_t, Bool.and_eq_true_iff, Bool.and_eq_true_iff] at hg
          have hx := mk_no hg.1
          have hng : gapB x = false := by simpa using hg.2.1
          have hleaf : leafG x = .t [.s x] := if_neg (by rw [hng]; exact Bool.false_ne_true)
          have hp : ∀ p ∈ qs, ∀ w ps pv, ∃ y, (toks p).foldl pf (some (⟨w, ps, true⟩, pv)) = some (⟨w, ps ++ [p], false⟩, some y) := fun p hp => ih p (dp_mem hd' (List.mem_cons_of_mem _ hp)) (List.all_eq_true.mp hg.2.2 p hp)
          cases qs with
          | nil => exact ⟨x, by rw [toks_1, hd_s, List.foldl_cons, pf_word hx, hleaf, List.foldl_nil]⟩
          | cons p qs =>
            obtain ⟨y, e⟩ := run_j (p :: qs) (by simp) hp (w ++ [ps ++ [.t [.s x]]]) [] (some oP) (by simp)
            refine ⟨cP, ?_⟩
            rw [toks_t, hd_s, List.foldl_cons, pf_word hx, hleaf, List.foldl_cons, pf_openT hg.1 hng, List.foldl_append, e, List.foldl_cons, List.nil_append, pf_close, List.foldl_nil]
            rfl
        | _ => simp [wgT] at hg
end K1
set_option Elab.async false
set_option linter.all false
set_option maxRecDepth 100000
set_option maxHeartbeats 2000000
namespace K1
open PySem PySem.Spec PyProof.Rows L2
open PySem.W (EachIs)
theorem sepT_snoc (b : List Str) : ∀ as : List (List Str), as ≠ [] → sepT (as ++ [b]) = sepT as ++ cm :: b
  | [], h => absurd rfl h
  | [a], _ => by simp [sepT]
  | a :: c :: r, _ => by
    have := sepT_snoc b (c :: r) (by simp)
    show a ++ cm :: sepT (c :: r ++ [b]) = (a ++ cm :: sepT (c :: r)) ++ cm :: b
    rw [this]
    simp
theorem sepT_one (a : List Str) : sepT [a] = a := rfl
theorem toks_leaf (x : Str) : toks (leafG x) = [x] := by
  unfold leafG
  split
  · exact toks_s x
  · rw [toks_1, hd_s]
theorem wgT_leaf {x : Str} (h : tokB x = true) : wgT (leafG x) = true := by
  unfold leafG
  split
  · next e => rw [wgT_s, e]
  · next e => rw [wgT_t, h]; simp [e]
/-- what the parser's state tells of the words so far -/
structure PInv (ws : List Str) (s : PSt) : Prop where
  tk : ws = (s.wait.map fun P => sepT (P.map toks) ++ [oP]).flatten ++ (sepT (s.parts.map toks) ++ if s.want && !s.parts.isEmpty then [cm] else [])
  wl : ∀ P ∈ s.wait, ∃ Q h, P = Q ++ [.t [.s h]]
  wf : ∀ P ∈ s.wait, ∀ g ∈ P, wgT g = true
  wp : ∀ g ∈ s.parts, wgT g = true
  ne : s.want = false → s.parts ≠ []
  pv : ∀ y, ws.getLast? = some y → isMk y = false → s.want = false ∧ ∃ Q, s.parts = Q ++ [leafG y]
theorem PInv.init : PInv [] ⟨[], [], true⟩ := ⟨rfl, by simp, by simp, by simp, by simp, by simp⟩
theorem PInv.step {ws : List Str} {s s' : PSt} {x : Str} (I : PInv ws s) (hx : Wd0 x) (e : pst ws.getLast? s x = some s') : PInv (ws ++ [x]) s' := by
  have hlast : ∀ y, (ws ++ [x]).getLast? = some y → y = x := fun y h => by simpa using h.symm
  unfold pst at e
  split at e
  · next c =>
    obtain ⟨c1, c2⟩ := c
    obtain rfl := (Option.some.inj e).symm
    have htx : tokB x = true := hx.resolve_left (by rw [c2]; exact Bool.false_ne_true)
    refine ⟨?_, I.wl, I.wf, fun g hg => ?_, fun _ => by simp, fun y hy hm => ⟨rfl, s.parts, by rw [hlast y hy]⟩⟩
    · have tk := I.tk
      rw [c1, Bool.true_and] at tk
      show ws ++ [x] = _ ++ (sepT ((s.parts ++ [leafG x]).map toks) ++ if false && _ then [cm] else [])
      rw [tk, List.map_append, List.map_singleton, toks_leaf]
      cases hp : s.parts with
      | nil => simp [sepT]
      | cons a r =>
        rw [sepT_snoc _ _ (by simp)]
        simp
    · rcases List.mem_append.mp hg with hg | hg
      · exact I.wp g hg
      · rw [List.mem_singleton.mp hg]
        exact wgT_leaf htx
  split at e
  · next c =>
    obtain ⟨rfl, y, hy, hm, hng⟩ := c
    obtain rfl := (Option.some.inj e).symm
    obtain ⟨hw, Q, hQ⟩ := I.pv y hy hm
    have hl : leafG y = .t [.s y] := if_neg (by rw [hng]; exact Bool.false_ne_true)
    refine ⟨?_, fun P hP => ?_, fun P hP => ?_, by simp, by simp, fun z hz hmz => ?_⟩
    · have tk := I.tk
      rw [hw, Bool.false_and] at tk
      show ws ++ [oP] = ((s.wait ++ [s.parts]).map _).flatten ++ _
      rw [tk]
      simp [sepT]
    · rcases List.mem_append.mp hP with hP | hP
      · exact I.wl P hP
      · rw [List.mem_singleton.mp hP, hQ, hl]
        exact ⟨_, _, rfl⟩
    · rcases List.mem_append.mp hP with hP | hP
      · exact I.wf P hP
      · rw [List.mem_singleton.mp hP]
        exact I.wp
    · rw [hlast z hz] at hmz
      exact absurd hmz (by decide +kernel)
  split at e
  · next c =>
    obtain ⟨rfl, hw, hne⟩ := c
    obtain rfl := (Option.some.inj e).symm
    refine ⟨?_, I.wl, I.wf, I.wp, by simp, fun z hz hmz => ?_⟩
    · have tk := I.tk
      rw [hw, Bool.false_and] at tk
      have hpe : s.parts.isEmpty = false := by
        cases hp : s.parts with
        | nil => exact absurd hp (I.ne hw)
        | cons a r => rfl
      show ws ++ [cm] = _ ++ (_ ++ if true && !s.parts.isEmpty then [cm] else [])
      rw [tk, hpe]
      simp
    · rw [hlast z hz] at hmz
      exact absurd hmz (by decide +kernel)
  split at e
  · next c =>
    obtain ⟨rfl, hw⟩ := c
    split at e
    · next ps hps =>
      obtain ⟨q, hq, hs⟩ := Option.map_eq_some_iff.mp e
      subst hs
      obtain ⟨W, hW⟩ : ∃ W, s.wait = W ++ [ps] := List.getLast?_eq_some_iff.mp hps
      have hm : ps ∈ s.wait := by rw [hW]; simp
      obtain ⟨Q, h, rfl⟩ := I.wl ps hm
      have hq2 : q = Q ++ [.t (.s h :: s.parts)] := by
        simp only [pclose, List.getLast?_concat, List.dropLast_concat] at hq
        exact (Option.some.inj hq).symm
      have hnp := I.ne hw
      have hgs := I.wf _ hm
      have hth := hgs (.t [.s h]) (by simp)
      rw [wgT_t] at hth
      have hnew : wgT (.t (.s h :: s.parts)) = true := by
        rw [wgT_t]
        simp only [Bool.and_eq_true, List.all_nil] at hth ⊢
        exact ⟨hth.1, hth.2.1, List.all_eq_true.mpr I.wp⟩
      refine ⟨?_, fun P hP => I.wl P (by rw [hW]; simp [hW] at hP; simp [hP]), fun P hP => I.wf P (by rw [hW]; simp [hW] at hP; simp [hP]), fun g hg => ?_, fun _ => by rw [hq2]; simp, fun z hz hmz => ?_⟩
      · have tk := I.tk
        rw [hw, Bool.false_and, hW] at tk
        show ws ++ [cP] = (s.wait.dropLast.map _).flatten ++ (sepT (q.map toks) ++ if false && _ then [cm] else [])
        rw [tk, hW, hq2, List.dropLast_concat]
        obtain ⟨a, r, hp⟩ : ∃ a r, s.parts = a :: r := by
          cases hp : s.parts with
          | nil => exact absurd hp hnp
          | cons a r => exact ⟨a, r, rfl⟩
        have e1 : toks (.t (.s h :: s.parts)) = h :: oP :: (sepT (s.parts.map toks) ++ [cP]) := by rw [hp, toks_t, hd_s]
        have e2 : toks (.t [.s h]) = [h] := by rw [toks_1, hd_s]
        simp only [List.map_append, List.map_cons, List.map_nil, e1, e2]
        cases hQ : Q with
        | nil => simp [sepT]
        | cons b t =>
          rw [sepT_snoc _ _ (by simp), sepT_snoc _ _ (by simp)]
          simp
      · rw [hq2] at hg
        rcases List.mem_append.mp hg with hg | hg
        · exact hgs g (by simp [hg])
        · rw [List.mem_singleton.mp hg]
          exact hnew
      · rw [hlast z hz] at hmz
        exact absurd hmz (by decide +kernel)
    · cases e
  · cases e
/-- the parser's run over some words -/
def prun (ws : List Str) : Option (PSt × Option Str) := ws.foldl pf (some (⟨[], [], true⟩, none))
theorem pf_none : ∀ ws : List Str, ws.foldl pf none = none
  | [] => rfl
  | _ :: ws => pf_none ws
theorem prun_snoc (ws : List Str) (x : Str) : prun (ws ++ [x]) = pf (prun ws) x := by
  unfold prun
  rw [List.foldl_append]
  rfl
theorem snoc_ind {α : Type} {P : List α → Prop} (h0 : P []) (h1 : ∀ l a, P l → P (l ++ [a])) : ∀ l, P l := fun l => by
  have : ∀ n, ∀ l : List α, l.length = n → P l := fun n => by
    induction n with
    | zero => intro l h; rw [List.eq_nil_of_length_eq_zero h]; exact h0
    | succ n ih =>
      intro l h
      have hne : l ≠ [] := fun z => by rw [z] at h; simp at h
      rw [← List.dropLast_concat_getLast hne]
      exact h1 _ _ (ih _ (by rw [List.length_dropLast, h]; rfl))
  exact this _ l rfl
theorem prun_inv (ws : List Str) : (∀ w ∈ ws, Wd0 w) → ∀ s pv, prun ws = some (s, pv) → pv = ws.getLast? ∧ PInv ws s := by
  refine snoc_ind (P := fun ws => (∀ w ∈ ws, Wd0 w) → ∀ s pv, prun ws = some (s, pv) → pv = ws.getLast? ∧ PInv ws s) ?_ (fun ws x ih => ?_) ws
  · intro _ s pv h
    cases h
    exact ⟨rfl, .init⟩
  · intro hw s pv h
    rw [prun_snoc] at h
    cases hr : prun ws with
    | none => rw [hr] at h; cases h
    | some a =>
      obtain ⟨s0, pv0⟩ := a
      obtain ⟨rfl, I⟩ := ih (fun w hw' => hw w (List.mem_append_left _ hw')) s0 pv0 hr
      rw [hr] at h
      change (pst ws.getLast? s0 x).map _ = _ at h
      obtain ⟨s1, e1, e2⟩ := Option.map_eq_some_iff.mp h
      cases e2
      exact ⟨by simp, I.step (hw x (by simp)) e1⟩
/-- the tree that the words are -/
def treeP (ws : List Str) : Option G := match prun ws with
  | some (⟨[], [g], false⟩, _) => some g
  | _ => none
theorem treeP_of {g : G} (h : wgT g = true) : treeP (toks g) = some g := by
  obtain ⟨y, e⟩ := run_tree _ g (Nat.le_refl _) h [] [] none
  unfold treeP prun
  rw [e]
  rfl
theorem treeP_to {ws : List Str} {g : G} (hw : ∀ w ∈ ws, Wd0 w) (h : treeP ws = some g) : wgT g = true ∧ toks g = ws := by
  unfold treeP at h
  split at h
  · next g' pv e =>
    cases h
    obtain ⟨_, I⟩ := prun_inv ws hw _ _ e
    refine ⟨I.wp g (by simp), ?_⟩
    have := I.tk
    simpa [sepT] using this.symm
  · cases h
/-- of a text -/
noncomputable def treeX (x : Str) : Option G := treeP (wrun x)
theorem treeX_iff {x : Str} {g : G} : treeX x = some g ↔ wgT g = true ∧ text g = x := by
  constructor
  · intro h
    obtain ⟨h1, h2⟩ := treeP_to (wrun_cat x).2 h
    exact ⟨h1, ext_l (by rw [← toks_cat h1, h2, (wrun_cat x).1])⟩
  · rintro ⟨h, rfl⟩
    unfold treeX
    rw [words_tree h]
    exact treeP_of h
end K1
set_option Elab.async false
set_option linter.all false
set_option maxRecDepth 100000
set_option maxHeartbeats 2000000
namespace K1
open PySem PySem.Spec PyProof.Rows L2
open PySem.W (EachIs)
/-! ### plans -/
/-- the words that have but plans, and how many -/
def arL : List (Str × Nat) := [("stay", 0), ("none", 0), ("any", 0), ("then", 2), ("else", 2), ("not", 1), ("often", 1), ("part", 1), ("parts", 1)]
def ar (w : Str) : Option Nat := arL.lookup w
abbrev tuW : Str := Str.ofString "turn"
abbrev plW : Str := Str.ofString "plan"
def leafB (w y : Str) : Bool := (decide (w = tuW) && titleB y) || (decide (w = plW) && nameB y)
def planB : Nat → G → Bool
  | l + 1, .t (.s w :: ps) => match ar w with
    | some n => decide (ps.length = n) && ps.all (planB l)
    | none => match ps with
      | [.s y] => leafB w y
      | _ => false
  | _, _ => false
/-- how many plans stand in it -/
def ptsP : Nat → G → Nat
  | l + 1, .t (.s w :: ps) => match ar w with
    | some _ => 1 + (ps.map (ptsP l)).sum
    | none => 1
  | _, _ => 1
def titleIn : List G → G
  | [.t [.s y]] => .s y
  | _ => .o .none
/-- what a tree is as a plan -/
def plOf : Nat → G → G
  | l + 1, .t (.s w :: ts) => match ar w with
    | some _ => .t (.s w :: ts.map (plOf l))
    | none => .t [.s w, titleIn ts]
  | _, _ => .o .none
/-- the tree of a plan -/
def trOf : Nat → G → G
  | l + 1, .t (.s w :: ps) => match ar w with
    | some _ => .t (.s w :: ps.map (trOf l))
    | none => match ps with
      | [.s y] => .t [.s w, .t [.s y]]
      | _ => .o .none
  | _, _ => .o .none
theorem planB_cases {l : Nat} {g : G} (h : planB l g = true) : ∃ l' w ps, l = l' + 1 ∧ g = .t (.s w :: ps) ∧ ((∃ n, ar w = some n ∧ ps.length = n ∧ ∀ p ∈ ps, planB l' p = true) ∨ (ar w = none ∧ ∃ y, ps = [.s y] ∧ leafB w y = true)) := by
  cases l with
  | zero => simp [planB] at h
  | succ l =>
    cases g with
    | t ps =>
      cases ps with
      | nil => simp [planB] at h
      | cons a ps =>
        cases a with
        | s w =>
          refine ⟨l, w, ps, rfl, rfl, ?_⟩
          unfold planB at h
          split at h
          · next n e =>
            rw [Bool.and_eq_true, decide_eq_true_iff, List.all_eq_true] at h
            exact .inl ⟨n, e, h.1, h.2⟩
          · next e =>
            split at h
            · next y => exact .inr ⟨e, y, rfl, h⟩
            · cases h
        | _ => simp [planB] at h
    | _ => simp [planB] at h
theorem ar_mem {w : Str} {n : Nat} (h : ar w = some n) : (w, n) ∈ arL := by
  have key : ∀ l : List (Str × Nat), l.lookup w = some n → (w, n) ∈ l := fun l => by
    induction l with
    | nil => intro z; cases z
    | cons a l ih =>
      intro z
      obtain ⟨x, m⟩ := a
      rw [List.lookup_cons] at z
      split at z
      · next e => cases z; rw [eq_of_beq e]; exact List.mem_cons_self
      · exact List.mem_cons_of_mem _ (ih z)
  exact key _ h
theorem ar_tok {w : Str} {n : Nat} (h : ar w = some n) : tokB w = true ∧ gapB w = false ∧ w.length ≤ 5 ∧ n ≤ 2 := by
  have key : ∀ p ∈ arL, tokB p.1 = true ∧ gapB p.1 = false ∧ p.1.length ≤ 5 ∧ p.2 ≤ 2 := by decide +kernel
  exact key _ (ar_mem h)
theorem leaf_word {w y : Str} (h : leafB w y = true) : (w = tuW ∨ w = plW) ∧ titleB y = true := by
  unfold leafB at h
  rw [Bool.or_eq_true, Bool.and_eq_true, Bool.and_eq_true, decide_eq_true_iff, decide_eq_true_iff] at h
  rcases h with ⟨h1, h2⟩ | ⟨h1, h2⟩
  · exact ⟨.inl h1, h2⟩
  · exact ⟨.inr h1, title_name h2⟩
theorem leaf_tok {w : Str} (h : w = tuW ∨ w = plW) : tokB w = true ∧ gapB w = false := by
  rcases h with rfl | rfl <;> decide +kernel
theorem spl_cov : ∀ (l acc : List Nat), ∀ c ∈ acc ++ l, c = 46 ∨ ∃ p ∈ TL.spl [46] 0 acc l, c ∈ p
  | [], acc, c, h => by
    rw [TL.spl_nil]
    rw [List.append_nil] at h
    exact .inr ⟨acc, List.mem_cons_self, h⟩
  | d :: r, acc, c, h => by
    cases e : TL.pre [46] (d :: r) with
    | true =>
      have hd : d = 46 := by
        have : (d :: r).take 1 = [46] := eq_of_beq e
        simpa using this
      rw [TL.spl_hit e]
      rcases List.mem_append.mp h with h | h
      · exact .inr ⟨acc, List.mem_cons_self, h⟩
      · rcases List.mem_cons.mp h with rfl | h
        · exact .inl hd
        · rcases spl_cov r [] c (by simpa using h) with z | ⟨p, hp, hc⟩
          · exact .inl z
          · exact .inr ⟨p, List.mem_cons_of_mem _ hp, hc⟩
    | false =>
      rw [TL.spl_miss e]
      exact spl_cov r (acc ++ [d]) c (by simpa using h)
theorem title_sign {x : Str} (h : titleB x = true) : ∀ c ∈ x.cps.toList, c = 46 ∨ isLow c = true := fun c hc => by
  unfold titleB at h
  obtain ⟨_, h2⟩ := Bool.and_eq_true_iff.mp h
  rcases spl_cov x.cps.toList [] c (by simpa using hc) with z | ⟨p, hp, hcp⟩
  · exact .inl z
  · have hm : SX.S p ∈ dots x := by
      rw [dots_eq]
      exact List.mem_map.mpr ⟨p, hp, rfl⟩
    have := List.all_eq_true.mp h2 _ hm
    exact .inr (List.all_eq_true.mp (Bool.and_eq_true_iff.mp this).2 c hcp)
theorem title_tok {x : Str} (h : titleB x = true) : tokB x = true ∧ gapB x = false := by
  have hne : x ≠ Str.empty := fun z => by
    rw [z] at h
    revert h
    decide +kernel
  refine ⟨tok_mk hne fun c hc => ?_, ?_⟩
  · cases q : isMk (ch c) with
    | false => rfl
    | true =>
      have := isMk_cp.mp q
      rcases title_sign h c hc with k | k
      · omega
      · unfold isLow at k
        have := of_decide_eq_true k
        omega
  · cases q : gapB x with
    | false => rfl
    | true =>
      obtain ⟨_, h2⟩ := Bool.and_eq_true_iff.mp q
      obtain ⟨h3, _⟩ := Bool.and_eq_true_iff.mp h2
      cases e : x.cps.toList with
      | nil =>
        exact absurd (ext_l (by rw [e]; rfl)) hne
      | cons a r =>
        rw [e] at h3
        have m := of_decide_eq_true h3
        have big : ∀ c ∈ bigs.cps.toList, 65 ≤ c ∧ c ≤ 90 := by decide +kernel
        have b := big a m
        rcases title_sign h a (by rw [e]; exact List.mem_cons_self) with k | k
        · omega
        · unfold isLow at k
          have := of_decide_eq_true k
          omega
theorem text_ts (w : Str) (ps : List G) : text (.t (.s w :: ps)) = if ps = [] then w else w ++ Str.ofString "(" ++ Txt.join (Str.ofString ",") (ps.map text) ++ Str.ofString ")" := by
  cases ps with
  | nil => rw [if_pos rfl, text_one, hd_s]
  | cons p ps => rw [if_neg (by simp), text_more, hd_s]
theorem text_s (x : Str) : text (.s x) = x := by simp [text]
theorem text_w (x : Str) : text (.t [.s x]) = x := by rw [text_one, hd_s]
/-- a plan and its tree -/
theorem tree_plan (l : Nat) : ∀ p, planB l p = true → wgT (trOf l p) = true ∧ text (trOf l p) = text p ∧ plOf l (trOf l p) = p := by
  induction l with
  | zero => intro p h; simp [planB] at h
  | succ l ih =>
    intro p h
    obtain ⟨l', w, ps, e, rfl, q⟩ := planB_cases h
    cases e
    rcases q with ⟨n, ha, hn, hp⟩ | ⟨ha, y, rfl, hl⟩
    · have et : trOf (l + 1) (.t (.s w :: ps)) = .t (.s w :: ps.map (trOf l)) := by unfold trOf; rw [ha]
      obtain ⟨t1, t2, _⟩ := ar_tok ha
      rw [et]
      refine ⟨?_, ?_, ?_⟩
      · rw [wgT_t, t1, t2]
        simp only [Bool.true_and, Bool.not_false, List.all_eq_true]
        intro g hg
        obtain ⟨p, hm, rfl⟩ := List.mem_map.mp hg
        exact (ih p (hp p hm)).1
      · rw [text_ts, text_ts, List.map_map]
        have : ps.map (text ∘ trOf l) = ps.map text := List.map_congr_left fun p hm => (ih p (hp p hm)).2.1
        rw [this]
        cases ps <;> rfl
      · unfold plOf
        rw [ha]
        show G.t (.s w :: (ps.map (trOf l)).map (plOf l)) = _
        rw [List.map_map, (List.map_congr_left fun p hm => (ih p (hp p hm)).2.2 : ps.map (plOf l ∘ trOf l) = ps.map id), List.map_id]
    · have et : trOf (l + 1) (.t [.s w, .s y]) = .t [.s w, .t [.s y]] := by unfold trOf; rw [ha]
      obtain ⟨hw, hy⟩ := leaf_word hl
      obtain ⟨t1, t2⟩ := leaf_tok hw
      obtain ⟨y1, y2⟩ := title_tok hy
      rw [et]
      refine ⟨?_, ?_, ?_⟩
      · rw [wgT_t, t1, t2]
        simp [wgT_t, y1, y2]
      · rw [text_ts, text_ts]
        simp [text_s, text_w]
      · unfold plOf
        rw [ha]
        rfl
theorem plan_text (l : Nat) : ∀ g, wgT g = true → planB l (plOf l g) = true → text (plOf l g) = text g := by
  induction l with
  | zero => intro g _ h; simp [planB] at h
  | succ l ih =>
    intro g hg h
    cases g with
    | t ts =>
      cases ts with
      | nil => simp [wgT] at hg
      | cons a ts =>
        cases a with
        | s w =>
          rw [wgT_t, Bool.and_eq_true, Bool.and_eq_true, List.all_eq_true] at hg
          cases ha : ar w with
          | some n =>
            have e : plOf (l + 1) (.t (.s w :: ts)) = .t (.s w :: ts.map (plOf l)) := by unfold plOf; rw [ha]
            rw [e] at h ⊢
            obtain ⟨l', w', ps, e1, e2, q⟩ := planB_cases h
            cases e1
            cases e2
            rcases q with ⟨n', _, _, hp⟩ | ⟨hn, _⟩
            · rw [text_ts, text_ts, List.map_map]
              have : ts.map (text ∘ plOf l) = ts.map text := List.map_congr_left fun g hm => ih g (hg.2.2 g hm) (hp _ (List.mem_map.mpr ⟨g, hm, rfl⟩))
              rw [this]
              cases ts <;> rfl
            · rw [ha] at hn
              cases hn
          | none =>
            have e : plOf (l + 1) (.t (.s w :: ts)) = .t [.s w, titleIn ts] := by unfold plOf; rw [ha]
            rw [e] at h ⊢
            obtain ⟨l', w', ps, e1, e2, q⟩ := planB_cases h
            cases e1
            cases e2
            rcases q with ⟨n', hn, _⟩ | ⟨_, y, ey, hl⟩
            · rw [ha] at hn
              cases hn
            · have ey := (List.cons.inj ey).1
              unfold titleIn at ey
              split at ey
              · rw [text_ts, text_ts]
                simp [text_s, text_w, titleIn]
              · cases ey
        | _ => simp [wgT] at hg
    | _ => simp [plOf, planB] at h
/-- a plan by form -/
def isPl (p : G) : Bool := planB 12 p && decide (ptsP 12 p ≤ 60)
/-- what the program reads of a text -/
noncomputable def rdP (x : Str) : Option G := (treeX x).bind fun g => if isPl (plOf 12 g) = true then some (plOf 12 g) else none
theorem rdP_iff {x : Str} {p : G} : rdP x = some p ↔ isPl p = true ∧ text p = x := by
  unfold rdP
  constructor
  · intro h
    obtain ⟨g, hg, e⟩ := Option.bind_eq_some_iff.mp h
    split at e
    · next q =>
      cases e
      obtain ⟨h1, h2⟩ := treeX_iff.mp hg
      exact ⟨q, by rw [plan_text 12 g h1 (Bool.and_eq_true_iff.mp q).1, h2]⟩
    · cases e
  · rintro ⟨h, rfl⟩
    obtain ⟨h1, h2, h3⟩ := tree_plan 12 p (Bool.and_eq_true_iff.mp h).1
    have hg : treeX (text p) = some (trOf 12 p) := treeX_iff.mpr ⟨h1, h2⟩
    rw [hg]
    show (if isPl (plOf 12 (trOf 12 p)) = true then some (plOf 12 (trOf 12 p)) else none) = some p
    rw [h3, if_pos h]
end K1
set_option Elab.async false
set_option linter.all false
set_option maxRecDepth 100000
set_option maxHeartbeats 2000000
namespace K1
open PySem PySem.Spec PyProof.Rows L2
open PySem.W (EachIs)
/-! ### the law's own reading -/
theorem part_cases (x : Str) : (40 ∉ x.cps.toList ∧ Txt.partition x oP = (x, Str.empty, Str.empty)) ∨ ∃ a b : Str, 40 ∉ a.cps.toList ∧ x = a ++ oP ++ b ∧ Txt.partition x oP = (a, oP, b) := by
  have et : TL.tl oP = 40 :: [] := by decide +kernel
  by_cases h : 40 ∈ x.cps.toList
  · obtain ⟨as, bs, e, hn⟩ := List.eq_append_cons_of_mem h
    have ex : x = (⟨as.toArray⟩ : Str) ++ oP ++ (⟨bs.toArray⟩ : Str) := ext_l (by
      rw [app_l, app_l, show oP.cps.toList = [40] by decide +kernel, e]
      simp)
    refine .inr ⟨⟨as.toArray⟩, ⟨bs.toArray⟩, by simpa using hn, ex, ?_⟩
    conv => lhs; rw [ex]
    exact TL.partition_app et (by simpa using hn)
  · exact .inl ⟨h, TL.partition_none et h⟩
def initS (x : Str) : Str := ⟨x.cps.toList.dropLast.toArray⟩
def endsB (x : Str) : Bool := decide (x.cps.toList.getLast? = some 41)
theorem ends_init {x : Str} (h : endsB x = true) : x = initS x ++ cP := by
  have := of_decide_eq_true h
  obtain ⟨ys, e⟩ := List.getLast?_eq_some_iff.mp this
  refine ext_l ?_
  rw [app_l, show cP.cps.toList = [41] by decide +kernel]
  show x.cps.toList = x.cps.toList.dropLast ++ [41]
  rw [e]
  simp
theorem init_app (y : Str) : endsB (y ++ cP) = true ∧ initS (y ++ cP) = y := by
  have e : (y ++ cP).cps.toList = y.cps.toList ++ [41] := by rw [app_l, show cP.cps.toList = [41] by decide +kernel]
  refine ⟨by unfold endsB; rw [e]; simp, ext_l ?_⟩
  show (y ++ cP).cps.toList.dropLast = _
  rw [e]
  simp
/-- pieces so far, the last one, the level -/
abbrev PcS : Type := List Str × Str × Int
def lvl (v : Int) (c : Nat) : Int := v + (if c = 40 then 1 else 0) - (if c = 41 then 1 else 0)
def pcst (s : PcS) (c : Nat) : Option PcS := if lvl s.2.2 c < 0 then none else if c = 44 ∧ lvl s.2.2 c = 0 then some (s.1 ++ [s.2.1], Str.empty, lvl s.2.2 c) else some (s.1, s.2.1 ++ ch c, lvl s.2.2 c)
def pcs : List Nat → PcS → Option PcS
  | [], s => some s
  | c :: cs, s => (pcst s c).bind (pcs cs)
def pieces (x : Str) : Option (List Str) := (pcs x.cps.toList ([], Str.empty, 0)).bind fun s => if s.2.2 = 0 then some (s.1 ++ [s.2.1]) else none
theorem pcs_app (a b : List Nat) : ∀ s, pcs (a ++ b) s = (pcs a s).bind (pcs b) := by
  induction a with
  | nil => exact fun s => rfl
  | cons c a ih =>
    intro s
    show (pcst s c).bind (pcs (a ++ b)) = ((pcst s c).bind (pcs a)).bind (pcs b)
    cases pcst s c with
    | none => rfl
    | some t => exact ih t
/-- the signs of texts with commas between -/
def jn : List Str → List Nat
  | [] => []
  | [a] => a.cps.toList
  | a :: b :: r => a.cps.toList ++ 44 :: jn (b :: r)
theorem jn_join : ∀ ws : List Str, ws ≠ [] → (Txt.join cm ws).cps.toList = jn ws
  | [], h => absurd rfl h
  | [a], _ => join1_l a
  | a :: b :: r, _ => by rw [joinS_l, jn_join (b :: r) (by simp)]; rfl
theorem jn_snoc (x : Str) : ∀ fs : List Str, fs ≠ [] → jn (fs ++ [x]) = jn fs ++ 44 :: x.cps.toList
  | [], h => absurd rfl h
  | [a], _ => rfl
  | a :: b :: r, _ => by
    have := jn_snoc x (b :: r) (by simp)
    show a.cps.toList ++ 44 :: jn (b :: r ++ [x]) = (a.cps.toList ++ 44 :: jn (b :: r)) ++ _
    rw [this]
    simp
theorem jn_more (fs : List Str) (x : Str) (c : Nat) : jn (fs ++ [x ++ ch c]) = jn (fs ++ [x]) ++ [c] := by
  cases fs with
  | nil => show (x ++ ch c).cps.toList = x.cps.toList ++ [c]; rw [app_l, ch_l]
  | cons a r => rw [jn_snoc _ _ (by simp), jn_snoc _ _ (by simp), app_l, ch_l]; simp
theorem pcs_jn : ∀ (cs : List Nat) (s s' : PcS), pcs cs s = some s' → jn (s'.1 ++ [s'.2.1]) = jn (s.1 ++ [s.2.1]) ++ cs
  | [], s, s', h => by cases h; simp
  | c :: cs, s, s', h => by
    obtain ⟨t, h1, h2⟩ := Option.bind_eq_some_iff.mp h
    have ih := pcs_jn cs t s' h2
    rw [ih]
    unfold pcst at h1
    split at h1
    · cases h1
    split at h1
    · next q =>
      cases h1
      show jn (s.1 ++ [s.2.1] ++ [Str.empty]) ++ cs = _
      rw [jn_snoc _ _ (by simp), q.1]
      simp [Str.empty]
    · cases h1
      show jn (s.1 ++ [s.2.1 ++ ch c]) ++ cs = _
      rw [jn_more]
      simp
theorem pieces_join {x : Str} {ps : List Str} (h : pieces x = some ps) : ps ≠ [] ∧ Txt.join cm ps = x := by
  unfold pieces at h
  obtain ⟨s, h1, h2⟩ := Option.bind_eq_some_iff.mp h
  split at h2
  · cases h2
    refine ⟨by simp, ext_l ?_⟩
    rw [jn_join _ (by simp), pcs_jn _ _ _ h1]
    simp [jn, Str.empty]
  · cases h2
/-- a text whose brackets fit, without a comma outside of them -/
def Bal (x : Str) : Prop := ∀ (fs : List Str) (y : Str) (v : Nat), pcs x.cps.toList (fs, y, (v : Int)) = some (fs, y ++ x, (v : Int))
theorem app_nil (x : Str) : x ++ Str.empty = x := ext_l (by rw [app_l]; simp [Str.empty])
theorem app_as (x y z : Str) : x ++ y ++ z = x ++ (y ++ z) := ext_l (by simp [app_l])
theorem pcs_plain : ∀ (cs : List Nat) (fs : List Str) (y : Str) (v : Nat), (∀ c ∈ cs, isMk (ch c) = false) → pcs cs (fs, y, (v : Int)) = some (fs, y ++ ⟨cs.toArray⟩, (v : Int))
  | [], fs, y, v, _ => by
    show some _ = _
    rw [show (⟨([] : List Nat).toArray⟩ : Str) = Str.empty from rfl, app_nil]
  | c :: cs, fs, y, v, h => by
    have hc : ¬ (c = 40 ∨ c = 41 ∨ c = 44) := fun z => by
      have := h c List.mem_cons_self
      rw [isMk_cp.mpr z] at this
      cases this
    have e : pcst (fs, y, (v : Int)) c = some (fs, y ++ ch c, (v : Int)) := by
      have el : lvl v c = v := by unfold lvl; rw [if_neg (by omega), if_neg (by omega)]; omega
      unfold pcst
      simp only
      rw [el, if_neg (by omega), if_neg (by omega)]
    show (pcst _ c).bind (pcs cs) = _
    rw [e]
    show pcs cs (fs, y ++ ch c, (v : Int)) = _
    rw [pcs_plain cs fs _ v fun d hd => h d (List.mem_cons_of_mem _ hd)]
    congr 2
    refine Prod.ext (ext_l ?_) rfl
    show (y ++ ch c ++ _).cps.toList = (y ++ _).cps.toList
    rw [app_l, app_l, app_l, ch_l]
    simp
theorem bal_tok {x : Str} (h : tokB x = true) : Bal x := fun fs y v => by
  rw [pcs_plain _ _ _ _ (tok_marks h)]
theorem pcs_jnB : ∀ (ws : List Str), ws ≠ [] → (∀ w ∈ ws, Bal w) → ∀ (fs : List Str) (y : Str) (v : Nat), pcs (jn ws) (fs, y, ((v + 1 : Nat) : Int)) = some (fs, y ++ Txt.join cm ws, ((v + 1 : Nat) : Int))
  | [], h, _, _, _, _ => absurd rfl h
  | [a], _, h, fs, y, v => by
    show pcs a.cps.toList _ = _
    rw [h a List.mem_cons_self, show Txt.join cm [a] = a from ext_l (join1_l a)]
  | a :: b :: r, _, h, fs, y, v => by
    show pcs (a.cps.toList ++ 44 :: jn (b :: r)) _ = _
    rw [pcs_app, h a List.mem_cons_self]
    show (pcst (fs, y ++ a, ((v + 1 : Nat) : Int)) 44).bind (pcs (jn (b :: r))) = _
    have e : pcst (fs, y ++ a, ((v + 1 : Nat) : Int)) 44 = some (fs, y ++ a ++ ch 44, ((v + 1 : Nat) : Int)) := by
      have el : lvl ((v + 1 : Nat) : Int) 44 = ((v + 1 : Nat) : Int) := by unfold lvl; simp
      unfold pcst
      simp only
      rw [el, if_neg (by omega), if_neg (by omega)]
    rw [e]
    show pcs (jn (b :: r)) _ = _
    rw [pcs_jnB (b :: r) (by simp) (fun w hw => h w (List.mem_cons_of_mem _ hw))]
    congr 2
    refine Prod.ext (ext_l ?_) rfl
    show (y ++ a ++ ch 44 ++ _).cps.toList = (y ++ _).cps.toList
    rw [app_l, app_l, app_l, app_l, ch_l, joinS_l]
    simp
theorem bal_text (l : Nat) : ∀ p, planB l p = true → Bal (text p) := by
  induction l with
  | zero => intro p h; simp [planB] at h
  | succ l ih =>
    intro p h
    obtain ⟨l', w, ps, e, rfl, q⟩ := planB_cases h
    cases e
    have hw : tokB w = true := by
      rcases q with ⟨n, ha, _⟩ | ⟨_, y, _, hl⟩
      · exact (ar_tok ha).1
      · exact (leaf_tok (leaf_word hl).1).1
    have hp : ∀ p ∈ ps.map text, Bal p := fun x hx => by
      obtain ⟨p, hm, rfl⟩ := List.mem_map.mp hx
      rcases q with ⟨n, _, _, hp⟩ | ⟨_, y, rfl, hl⟩
      · exact ih p (hp p hm)
      · rw [List.mem_singleton.mp hm, text_s]
        exact bal_tok (title_tok (leaf_word hl).2).1
    rw [text_ts]
    cases hps : ps with
    | nil => rw [if_pos rfl]; exact bal_tok hw
    | cons a r =>
      rw [if_neg (by simp), ← hps]
      have hne : ps.map text ≠ [] := by rw [hps]; simp
      intro fs y v
      have ex : (w ++ Str.ofString "(" ++ Txt.join (Str.ofString ",") (ps.map text) ++ Str.ofString ")").cps.toList = w.cps.toList ++ (40 :: (jn (ps.map text) ++ 41 :: [])) := by
        rw [app_l, app_l, app_l, show (Str.ofString "(").cps.toList = [40] by decide +kernel, show (Str.ofString ")").cps.toList = [41] by decide +kernel, show (Txt.join (Str.ofString ",") (ps.map text)).cps.toList = jn (ps.map text) from jn_join _ hne]
        simp
      rw [ex, pcs_app, bal_tok hw]
      have e1 : pcst (fs, y ++ w, (v : Int)) 40 = some (fs, y ++ w ++ ch 40, ((v + 1 : Nat) : Int)) := by
        have el : lvl (v : Int) 40 = ((v + 1 : Nat) : Int) := by unfold lvl; simp
        unfold pcst
        simp only
        rw [el, if_neg (by omega), if_neg (by omega)]
      show (pcst (fs, y ++ w, (v : Int)) 40).bind (pcs _) = _
      rw [e1]
      show pcs (jn (ps.map text) ++ [41]) _ = _
      rw [pcs_app, pcs_jnB _ hne hp]
      have e2 : pcst (fs, y ++ w ++ ch 40 ++ Txt.join cm (ps.map text), ((v + 1 : Nat) : Int)) 41 = some (fs, y ++ w ++ ch 40 ++ Txt.join cm (ps.map text) ++ ch 41, (v : Int)) := by
        have el : lvl ((v + 1 : Nat) : Int) 41 = (v : Int) := by unfold lvl; simp
        unfold pcst
        simp only
        rw [el, if_neg (by omega), if_neg (by omega)]
      show (pcst _ 41).bind (pcs []) = _
      rw [e2]
      show some _ = some _
      congr 2
      refine Prod.ext (ext_l ?_) rfl
      show (y ++ w ++ ch 40 ++ Txt.join cm (ps.map text) ++ ch 41).cps.toList = (y ++ _).cps.toList
      rw [app_l, app_l, app_l, app_l, app_l, ch_l, ch_l, ex, jn_join _ hne]
      simp
/-- pieces of a join are the joined ones -/
theorem pieces_of (ws : List Str) (hne : ws ≠ []) (h : ∀ w ∈ ws, Bal w) : pieces (Txt.join cm ws) = some ws := by
  have key : ∀ (ws : List Str), ws ≠ [] → (∀ w ∈ ws, Bal w) → ∀ fs, pcs (jn ws) (fs, Str.empty, 0) = some (fs ++ ws.dropLast, ws.getLast?.getD Str.empty, 0) := fun ws => by
    induction ws with
    | nil => intro h; exact absurd rfl h
    | cons a r ih =>
      intro _ h fs
      have ha := h a List.mem_cons_self fs Str.empty 0
      have e0 : Str.empty ++ a = a := ext_l (by rw [app_l]; simp [Str.empty])
      rw [e0] at ha
      cases r with
      | nil =>
        show pcs a.cps.toList (fs, Str.empty, ((0 : Nat) : Int)) = _
        rw [ha]
        simp
      | cons b r =>
        show pcs (a.cps.toList ++ 44 :: jn (b :: r)) (fs, Str.empty, ((0 : Nat) : Int)) = _
        rw [pcs_app, ha]
        have e : pcst (fs, a, ((0 : Nat) : Int)) 44 = some (fs ++ [a], Str.empty, 0) := by
          have el : lvl ((0 : Nat) : Int) 44 = 0 := by unfold lvl; simp
          unfold pcst
          simp only
          rw [el, if_neg (by omega), if_pos (by simp)]
        show (pcst (fs, a, ((0 : Nat) : Int)) 44).bind (pcs (jn (b :: r))) = _
        rw [e]
        show pcs (jn (b :: r)) _ = _
        rw [ih (by simp) (fun w hw => h w (List.mem_cons_of_mem _ hw))]
        simp
  unfold pieces
  rw [jn_join ws hne, key ws hne h []]
  show (if (0 : Int) = 0 then some ([] ++ ws.dropLast ++ [ws.getLast?.getD Str.empty]) else none) = _
  rw [if_pos rfl, List.nil_append, List.getLast?_eq_some_getLast hne]
  show some (ws.dropLast ++ [ws.getLast hne]) = _
  rw [List.dropLast_concat_getLast]
end K1
set_option Elab.async false
set_option linter.all false
set_option maxRecDepth 100000
set_option maxHeartbeats 2000000
namespace K1
open PySem PySem.Spec PyProof.Rows L2
open PySem.W (EachIs)
/-- all of some texts read one by one, and how many plans may still stand -/
def rlAll (f : Str → Int → Option G × Int) : List Str → Int → List (Option G) × Int
  | [], n => ([], n)
  | p :: ps, n => ((f p n).1 :: (rlAll f ps (f p n).2).1, (rlAll f ps (f p n).2).2)
def allS : List (Option G) → Option (List G)
  | [] => some []
  | some g :: r => (allS r).map (g :: ·)
  | none :: _ => none
/-- the law's own reading of a text, n plans may stand in it -/
def rl : Nat → Str → Int → Option G × Int
  | 0, _, n => (none, n - 1)
  | l + 1, x, n =>
    if n - 1 < 0 then (none, n - 1)
    else if (Txt.partition x oP).2.1 = Str.empty then (if ar (Txt.partition x oP).1 = some 0 then some (.t [.s (Txt.partition x oP).1]) else none, n - 1)
    else if endsB (Txt.partition x oP).2.2 = false then (none, n - 1)
    else match pieces (initS (Txt.partition x oP).2.2) with
      | none => (none, n - 1)
      | some ps =>
        if (Txt.partition x oP).1 = tuW ∨ (Txt.partition x oP).1 = plW then (if leafB (Txt.partition x oP).1 (initS (Txt.partition x oP).2.2) = true then some (.t [.s (Txt.partition x oP).1, .s (initS (Txt.partition x oP).2.2)]) else none, n - 1)
        else if ar (Txt.partition x oP).1 = some ps.length then ((allS (rlAll (rl l) ps (n - 1)).1).map fun gs => .t (.s (Txt.partition x oP).1 :: gs), (rlAll (rl l) ps (n - 1)).2)
        else (none, n - 1)
theorem allS_len {rs : List (Option G)} : ∀ {gs : List G}, allS rs = some gs → rs = gs.map some := by
  induction rs with
  | nil => intro gs h; cases h; rfl
  | cons a r ih =>
    intro gs h
    cases a with
    | none => cases h
    | some g =>
      obtain ⟨t, h1, rfl⟩ := Option.map_eq_some_iff.mp h
      rw [ih h1]
      rfl
theorem allS_some : ∀ gs : List G, allS (gs.map some) = some gs
  | [] => rfl
  | g :: gs => by
    show (allS (gs.map some)).map (g :: ·) = _
    rw [allS_some gs]
    rfl
theorem oP_ne : oP ≠ Str.empty := by decide +kernel
theorem leaf_iff (w y : Str) : leafB w y = true ↔ (w = tuW ∧ titleB y = true) ∨ (w = plW ∧ nameB y = true) := by
  unfold leafB
  rw [Bool.or_eq_true, Bool.and_eq_true, Bool.and_eq_true, decide_eq_true_iff, decide_eq_true_iff]
theorem ar_leaf {w : Str} (h : w = tuW ∨ w = plW) : ar w = none := by
  rcases h with rfl | rfl <;> decide +kernel
theorem rlAll_ok {l : Nat} (ih : ∀ x n p m, rl l x n = (some p, m) → planB l p = true ∧ text p = x ∧ m = n - ptsP l p ∧ (ptsP l p : Int) ≤ n ∧ 1 ≤ ptsP l p) : ∀ (ps : List Str) (n : Int) (gs : List G), 0 ≤ n → allS (rlAll (rl l) ps n).1 = some gs → (∀ g ∈ gs, planB l g = true) ∧ gs.map text = ps ∧ (rlAll (rl l) ps n).2 = n - ((gs.map (ptsP l)).sum : Nat) ∧ (((gs.map (ptsP l)).sum : Nat) : Int) ≤ n
  | [], n, gs, h0, h => by cases h; exact ⟨by simp, rfl, by simp [rlAll], by simpa using h0⟩
  | p :: ps, n, gs, h0, h => by
    unfold rlAll at h ⊢
    cases e : rl l p n with
    | mk a m =>
      rw [e] at h
      cases a with
      | none => cases h
      | some g =>
        obtain ⟨t, h1, rfl⟩ := Option.map_eq_some_iff.mp h
        obtain ⟨a1, a2, a3, a4, _⟩ := ih _ _ _ _ e
        simp only at h1 ⊢
        obtain ⟨b1, b2, b3, b4⟩ := rlAll_ok ih ps m t (by omega) h1
        refine ⟨fun q hq => ?_, by rw [List.map_cons, a2, b2], ?_, ?_⟩
        · rcases List.mem_cons.mp hq with rfl | hq
          · exact a1
          · exact b1 q hq
        · rw [b3, a3, List.map_cons, List.sum_cons]
          omega
        · rw [List.map_cons, List.sum_cons]
          omega
theorem rl_ok (l : Nat) : ∀ x n p m, rl l x n = (some p, m) → planB l p = true ∧ text p = x ∧ m = n - ptsP l p ∧ (ptsP l p : Int) ≤ n ∧ 1 ≤ ptsP l p := by
  induction l with
  | zero => intro x n p m h; cases h
  | succ l ih =>
    intro x n p m h
    unfold rl at h
    split at h
    · cases h
    next hn =>
    rcases part_cases x with ⟨h40, ep⟩ | ⟨w, inn, h40, ex, ep⟩
    · rw [ep, if_pos rfl] at h
      split at h
      · next ha =>
        cases h
        have h1 : ptsP (l + 1) (.t [.s x]) = 1 := by unfold ptsP; rw [ha]; rfl
        refine ⟨?_, text_w x, by rw [h1]; rfl, by rw [h1]; omega, by rw [h1]; exact Nat.le_refl 1⟩
        unfold planB
        rw [ha]
        rfl
      · cases h
    · rw [ep] at h
      simp only at h
      rw [if_neg oP_ne] at h
      split at h
      · cases h
      next he =>
      have he : endsB inn = true := by simpa using he
      have ei := ends_init he
      cases hp : pieces (initS inn) with
      | none => rw [hp] at h; cases h
      | some ps =>
        rw [hp] at h
        simp only at h
        obtain ⟨hne, hj⟩ := pieces_join hp
        split at h
        · next hw =>
          split at h
          · next hl =>
            cases h
            have ha := ar_leaf hw
            have h1 : ptsP (l + 1) (.t [.s w, .s (initS inn)]) = 1 := by unfold ptsP; rw [ha]
            refine ⟨?_, ?_, by rw [h1]; rfl, by rw [h1]; omega, by rw [h1]; exact Nat.le_refl 1⟩
            · unfold planB
              rw [ha]
              exact hl
            · rw [text_ts, if_neg (by simp), List.map_singleton, text_s, show Txt.join (Str.ofString ",") [initS inn] = initS inn from ext_l (join1_l _), ex]
              conv => rhs; rw [ei]
              rw [app_as]
          · cases h
        · split at h
          · next ha =>
            obtain ⟨gs, hg, hm⟩ : ∃ gs, allS (rlAll (rl l) ps (n - 1)).1 = some gs ∧ p = .t (.s w :: gs) := by
              have := congrArg Prod.fst h
              obtain ⟨gs, h1, h2⟩ := Option.map_eq_some_iff.mp this
              exact ⟨gs, h1, h2.symm⟩
            have hm2 : (rlAll (rl l) ps (n - 1)).2 = m := congrArg Prod.snd h
            subst hm
            obtain ⟨b1, b2, b3, b4⟩ := rlAll_ok ih ps (n - 1) gs (by omega) hg
            have hlen : gs.length = ps.length := by rw [← b2, List.length_map]
            have h1 : ptsP (l + 1) (.t (.s w :: gs)) = 1 + (gs.map (ptsP l)).sum := by unfold ptsP; rw [ha]
            refine ⟨?_, ?_, by rw [← hm2, b3, h1]; omega, by rw [h1]; omega, by rw [h1]; omega⟩
            · unfold planB
              rw [ha]
              rw [Bool.and_eq_true, decide_eq_true_iff, List.all_eq_true]
              exact ⟨hlen, b1⟩
            · have hgn : gs ≠ [] := fun z => hne (by rw [← b2, z]; rfl)
              rw [text_ts, if_neg hgn, b2, show Txt.join (Str.ofString ",") ps = initS inn from hj, ex]
              conv => rhs; rw [ei]
              rw [app_as]
          · cases h
theorem pts_pos (l : Nat) (p : G) : 1 ≤ ptsP l p := by
  unfold ptsP
  split
  · split <;> omega
  · exact Nat.le_refl 1
theorem rlAll_to {l : Nat} (ih : ∀ p n, planB l p = true → (ptsP l p : Int) ≤ n → rl l (text p) n = (some p, n - ptsP l p)) : ∀ (gs : List G) (n : Int), (∀ g ∈ gs, planB l g = true) → (((gs.map (ptsP l)).sum : Nat) : Int) ≤ n → rlAll (rl l) (gs.map text) n = (gs.map some, n - ((gs.map (ptsP l)).sum : Nat))
  | [], n, _, _ => by simp [rlAll]
  | g :: gs, n, h, hn => by
    rw [List.map_cons, List.sum_cons] at hn
    rw [List.map_cons]
    unfold rlAll
    rw [ih g n (h g List.mem_cons_self) (by omega)]
    simp only
    rw [rlAll_to ih gs _ (fun q hq => h q (List.mem_cons_of_mem _ hq)) (by omega)]
    rw [List.map_cons, List.map_cons, List.sum_cons]
    refine Prod.ext rfl ?_
    show n - _ - _ = _
    omega
theorem tok_40 {w : Str} (h : tokB w = true) : 40 ∉ w.cps.toList := fun z => by
  have := tok_marks h 40 z
  revert this
  decide +kernel
theorem rl_to (l : Nat) : ∀ p n, planB l p = true → (ptsP l p : Int) ≤ n → rl l (text p) n = (some p, n - ptsP l p) := by
  induction l with
  | zero => intro p n h; simp [planB] at h
  | succ l ih =>
    intro p n h hn
    obtain ⟨l', w, ps, e, rfl, q⟩ := planB_cases h
    cases e
    have hpos := pts_pos (l + 1) (.t (.s w :: ps))
    have hn1 : ¬ n - 1 < 0 := by omega
    have et : TL.tl oP = 40 :: [] := by decide +kernel
    rcases q with ⟨k, ha, hk, hp⟩ | ⟨ha, y, rfl, hl⟩
    · have hw := (ar_tok ha).1
      have hnl : ¬ (w = tuW ∨ w = plW) := fun z => by rw [ar_leaf z] at ha; cases ha
      have h1 : ptsP (l + 1) (.t (.s w :: ps)) = 1 + (ps.map (ptsP l)).sum := by unfold ptsP; rw [ha]
      rw [text_ts]
      cases hps : ps with
      | nil =>
        rw [if_pos rfl]
        unfold rl
        rw [if_neg hn1, TL.partition_none et (tok_40 hw)]
        simp only
        rw [if_pos trivial]
        have ha0 : ar w = some 0 := by rw [ha, ← hk, hps]; rfl
        rw [if_pos ha0, ← hps, h1, hps]
        rfl
      | cons a r =>
        rw [if_neg (by simp), ← hps]
        have hne : ps.map text ≠ [] := by rw [hps]; simp
        have ex : w ++ Str.ofString "(" ++ Txt.join (Str.ofString ",") (ps.map text) ++ Str.ofString ")" = w ++ oP ++ (Txt.join cm (ps.map text) ++ cP) := app_as _ _ _
        obtain ⟨i1, i2⟩ := init_app (Txt.join cm (ps.map text))
        unfold rl
        rw [if_neg hn1, ex, TL.partition_app et (tok_40 hw)]
        simp only
        rw [if_neg oP_ne, i1, if_neg (by simp), i2, pieces_of _ hne (fun x hx => by
          obtain ⟨p, hm, rfl⟩ := List.mem_map.mp hx
          exact bal_text l p (hp p hm))]
        simp only
        rw [if_neg hnl, if_pos (by rw [ha, List.length_map, hk]), rlAll_to ih ps (n - 1) hp (by omega)]
        simp only
        rw [allS_some, h1]
        refine Prod.ext rfl ?_
        show n - 1 - _ = n - _
        omega
    · obtain ⟨hw, hy⟩ := leaf_word hl
      have hwt := (leaf_tok hw).1
      have hyt := (title_tok hy).1
      have h1 : ptsP (l + 1) (.t [.s w, .s y]) = 1 := by unfold ptsP; rw [ha]
      have ex : text (.t [.s w, .s y]) = w ++ oP ++ (y ++ cP) := by
        rw [text_ts, if_neg (by simp), List.map_singleton, text_s, show Txt.join (Str.ofString ",") [y] = y from ext_l (join1_l _)]
        exact app_as _ _ _
      obtain ⟨i1, i2⟩ := init_app y
      have hpy : pieces y = some [y] := by
        have := pieces_of [y] (by simp) (fun z hz => by rw [List.mem_singleton.mp hz]; exact bal_tok hyt)
        rwa [show Txt.join cm [y] = y from ext_l (join1_l _)] at this
      unfold rl
      rw [if_neg hn1, ex, TL.partition_app et (tok_40 hwt)]
      simp only
      rw [if_neg oP_ne, i1, if_neg (by simp), i2, hpy]
      simp only
      rw [if_pos hw, if_pos hl, h1]
      rfl
/-- both read the same -/
theorem rl_iff {x : Str} {p : G} : (rl 12 x 60).1 = some p ↔ isPl p = true ∧ text p = x := by
  unfold isPl
  rw [Bool.and_eq_true, decide_eq_true_iff]
  constructor
  · intro h
    obtain ⟨a1, a2, _, a4, _⟩ := rl_ok 12 x 60 p (rl 12 x 60).2 (Prod.ext h rfl)
    exact ⟨⟨a1, by omega⟩, a2⟩
  · rintro ⟨⟨h1, h2⟩, rfl⟩
    rw [rl_to 12 p 60 h1 (by omega)]
theorem rd_rl (x : Str) : rdP x = (rl 12 x 60).1 := by
  cases e : rdP x with
  | none =>
    cases e2 : (rl 12 x 60).1 with
    | none => rfl
    | some p =>
      rw [rdP_iff.mpr (rl_iff.mp e2)] at e
      cases e
  | some p => exact (rl_iff.mpr (rdP_iff.mp e)).symm
/-- of one text, one plan -/
theorem plan_inj {p q : G} (hp : planB 12 p = true) (hq : planB 12 q = true) (h : text p = text q) : p = q := by
  have a := rl_to 12 p (ptsP 12 p + ptsP 12 q : Nat) hp (by omega)
  have b := rl_to 12 q (ptsP 12 p + ptsP 12 q : Nat) hq (by omega)
  rw [h] at a
  rw [a] at b
  exact Option.some.inj (congrArg Prod.fst b)
end K1
set_option Elab.async false
set_option linter.all false
set_option maxRecDepth 100000
set_option maxHeartbeats 2000000
namespace L2
open PySem PySem.Spec PyProof.Rows
/-- d[key], d a written dict of the module -/
theorem ix_kd {X : Cx} {d : Addr} {es : Array DictEntry} {n : Nat} (D : KDict X.K X.w d es n) : IxR X (fun x y H Q => ∃ (z : Str) (u0 : Value) (v0 : V), x = .ref d ∧ y = .str z ∧ PySem.W.nsIn X.K d z = some (some u0) ∧ RelV v0 u0 ∧ Q v0 H) := by
  intro value slice pins s σ H x y v u Q I rx ry h hs
  obtain ⟨z, u0, v0, rfl, rfl, e, r, q⟩ := h
  cases rx
  obtain ⟨t, rfl⟩ := ry
  refine tail_any (kd_type D I) PySem.F.slot_dict_getitem.lookup ?_ hs
  exact wpAny_getItem_of (PySem.strKind_is X.prog X.w z t) (PySem.W.mapOf_K (prog := X.prog) I.kIn D.at_ D.lit) (PySem.W.find_K D.at_ e) ⟨v0, H, I.tok _, r, q⟩
end L2
namespace K1
open PySem PySem.Spec PyProof.Rows L2
open PySem.W (EachIs)
/-- the name INNER: a dict of the words that have plans within -/
structure Inr (K : PySem.W.Frag) (w : World) (mg : Str → Option Value) (aI : Addr) (es : Array DictEntry) (m : Nat) : Prop where
  g : mg "INNER" = some (.ref aI)
  D : KDict K w aI es m
  get : ∀ x n, ar x = some n → ∃ t, PySem.W.nsIn K aI x = some (some (.int (n : Int) t))
  no : ∀ x, ar x = none → PySem.W.nsIn K aI x = some none
def rInI (aI : Addr) : R2 := fun x y H Q => ∃ (z : Str), x = .str z ∧ y = .ref aI ∧ Q (.bl (ar z).isSome) H
def rNoI (aI : Addr) : R2 := fun x y H Q => ∃ (z : Str), x = .str z ∧ y = .ref aI ∧ Q (.bl (!(ar z).isSome)) H
def rIxI (aI : Addr) : R2 := fun x y H Q => ∃ (z : Str) (n : Nat), x = .ref aI ∧ y = .str z ∧ ar z = some n ∧ Q (.int n) H
section
variable {X : Cx} {aI : Addr} {es : Array DictEntry} {m : Nat}
theorem Inr.is (I : Inr X.K X.w X.mg aI es m) (z : Str) : ∃ r, PySem.W.nsIn X.K aI z = some r ∧ r.isSome = (ar z).isSome := by
  cases e : ar z with
  | none => exact ⟨_, I.no z e, rfl⟩
  | some n =>
    obtain ⟨t, h⟩ := I.get z n e
    exact ⟨_, h, rfl⟩
theorem op_inI (I : Inr X.K X.w X.mg aI es m) : OpR X (compareOp .In) (rInI aI) := fun pins s σ H x y v u Q iv rx ry h => by
  obtain ⟨z, e1, e2, q⟩ := h
  obtain ⟨r, h1, h2⟩ := I.is z
  exact op_in_kd I.D pins s σ H x y v u Q iv rx ry ⟨z, r, e1, e2, h1, by rw [h2]; exact q⟩
theorem op_noI (I : Inr X.K X.w X.mg aI es m) : OpR X (compareOp .NotIn) (rNoI aI) := fun pins s σ H x y v u Q iv rx ry h => by
  obtain ⟨z, e1, e2, q⟩ := h
  obtain ⟨r, h1, h2⟩ := I.is z
  exact op_notIn_kd I.D pins s σ H x y v u Q iv rx ry ⟨z, r, e1, e2, h1, by rw [h2]; exact q⟩
theorem ix_I (I : Inr X.K X.w X.mg aI es m) : IxR X (rIxI aI) := fun value slice pins s σ H x y v u Q iv rx ry h hs => by
  obtain ⟨z, n, e1, e2, e3, q⟩ := h
  obtain ⟨t, ht⟩ := I.get z n e3
  exact ix_kd I.D value slice pins s σ H x y v u Q iv rx ry ⟨z, _, .int n, e1, e2, ht, ⟨_, rfl⟩, q⟩ hs
end
/-! ### plans as things -/
def txB (x : Str) : Bool := decide (x.length ≤ 1000) && PyData.strOk x
/-- what plans are tried of: texts, None, tuples that begin with a text -/
def gd : G → Bool
  | .s x => txB x
  | .t (.s w :: ps) => txB w && ((ps.map gd).all id && ((ar w).isSome || ps.all fun p => !isT p))
  | .o .none => true
  | _ => false
theorem gd_t (w : Str) (ps : List G) : gd (.t (.s w :: ps)) = (txB w && (ps.all gd && ((ar w).isSome || ps.all fun p => !isT p))) := by
  rw [gd, List.all_map]
  rfl
theorem gd_s (x : Str) : gd (.s x) = txB x := by rw [gd]
theorem gd_cases {g : G} (h : gd g = true) : (∃ x, g = .s x ∧ txB x = true) ∨ g = .o .none ∨ ∃ w ps, g = .t (.s w :: ps) ∧ txB w = true ∧ (∀ p ∈ ps, gd p = true) ∧ (ar w = none → ∀ p ∈ ps, ∀ qs, p ≠ .t qs) := by
  cases g with
  | s x => exact .inl ⟨x, rfl, by rw [gd_s] at h; exact h⟩
  | o d => cases d <;> first | exact .inr (.inl rfl) | simp [gd] at h
  | l ps => simp [gd] at h
  | t ps =>
    cases ps with
    | nil => simp [gd] at h
    | cons a ps =>
      cases a with
      | s w =>
        rw [gd_t, Bool.and_eq_true, Bool.and_eq_true, List.all_eq_true] at h
        refine .inr (.inr ⟨w, ps, rfl, h.1, h.2.1, fun e p hp qs z => ?_⟩)
        have h2 := h.2.2
        rw [e, Option.isSome_none, Bool.false_or, List.all_eq_true] at h2
        have := h2 p hp
        rw [z] at this
        cases this
      | _ => simp [gd] at h
theorem tx_ok {x : Str} (h : txB x = true) : x.length ≤ 1000 ∧ PyData.strOk x = true := by
  unfold txB at h
  rw [Bool.and_eq_true, decide_eq_true_iff] at h
  exact h
theorem gd_str {g : G} (h : gd g = true) : ∀ x, g = .s x → x.length ≤ 1000 ∧ PyData.strOk x = true := fun x e => by
  subst e
  rw [gd_s] at h
  exact tx_ok h
def nmG : G → Bool
  | .s y => nameB y
  | _ => false
theorem sqt_same {K : PySem.W.Frag} {H H' : Hp} {a : Addr} {xs : List V} (s : Same H H') (h : SqT K H a xs) : SqT K H' a xs := Ext.sqt (Ext.of s) h
theorem gd_dm {K : PySem.W.Frag} {H : Hp} {v : V} {g : G} (h : gd g = true) (hi : In K H v g) (hn : ∀ ps, g ≠ .t ps) : ∃ d, Dm K H v d ∧ okD d = true ∧ nameD d = nmG g := by
  rcases gd_cases h with ⟨x, rfl, hx⟩ | rfl | ⟨w, ps, rfl, _⟩
  · obtain ⟨h1, h2⟩ := tx_ok hx
    refine ⟨.str x, by rw [hi.str]; exact .dat (.str x), ?_, rfl⟩
    show (fineD (.str x) && SeqAt.shaped (.str x)) = true
    rw [show fineD (.str x) = decide (x.length ≤ 1000) from rfl, decide_eq_true h1, Bool.true_and]
    exact ok_shaped h2
  · cases hi with
    | non => exact ⟨.none, .dat .non, by decide +kernel, rfl⟩
  · exact absurd rfl (hn _)
abbrev sLeaf : Stmt := topS 18
def lfB (w : Str) (ps : List G) : Bool := match ps with
  | [.s y] => leafB w y
  | _ => false
def spLeaf (K : PySem.W.Frag) : Sp := fun vs H Q _ => ∃ (v : V) (w : Str) (ps : List G), vs = [v] ∧ In K H v (.t (.s w :: ps)) ∧ (∀ p ∈ ps, gd p = true ∧ ∀ qs, p ≠ .t qs) ∧ ps.length ≤ 10000 ∧ ∀ H', Same H H' → Q (.bl (lfB w ps)) H'
section
variable {P : Program} {w : World} {K : PySem.W.Frag} {mg : Str → Option Value} {base : Heap}
theorem scLeaf : FnScope ["plan"] ["plan"] (defScope sLeaf) := ⟨rfl, rfl, rfl, by decide +kernel, rfl, by decide +kernel, by decide +kernel⟩
theorem ok_leaf {f : Addr} {fd : FuncData} (F : Fun K "is_leaf" "is_leaf" sLeaf f fd) (DN : Df P w K mg base C8.CX0 "is_name" 2 ["thing"] (spP K nameD)) (DT : Df P w K mg base C8.CX0 "is_title" 3 ["thing"] (spT K titleG)) (T : Ct mg) :
    FnOk P w K mg base C8.CX0 4 f fd ["plan"] (spLeaf K) := by
  refine F.ok scLeaf (fun vs H Q E h => ?_) (fun cdv A outer s H vs Q E hr h => ?_)
  · obtain ⟨v, w, ps, rfl, _⟩ := h
    rfl
  · obtain ⟨v, w, ps, rfl, hin, hp, hl, k⟩ := h
    have hr2 : Room 2 _ := hr.mono (by omega)
    refine ⟨_, pss_cons (ps_if (pt_cmpR op_ne (pe_callB call_len (by rfl) T.len PySem.boot_len (pa_cons (pv 0) pa_nil)) pe_int (nomark _)) (pss_one (ps_ret pe_bl)) pss_nil)
      (pss_one (ps_ret (pe_or (pe_and (pe_cmpR op_eq (pe_ix ix_tup (pv 0) pe_int (fun _ _ => rfl)) pe_str (nomark _)) (pe_one (pe_df DT hr pass0 (pa_cons (pe_ix ix_tup (pv 0) pe_int (fun _ _ => rfl)) pa_nil))))
        (pe_one (pe_and (pe_cmpR op_eq (pe_ix ix_tup (pv 0) pe_int (fun _ _ => rfl)) pe_str (nomark _)) (pe_one (pe_df DN hr2 pass0 (pa_cons (pe_ix ix_tup (pv 0) pe_int (fun _ _ => rfl)) pa_nil)))))))), ?_⟩
    obtain ⟨a, xs, rfl, hx, hg⟩ := hin.tup
    have hlen := hg.len
    rw [List.length_cons] at hlen
    have hx0 : xs[0]? = some (.str w) := by
      obtain ⟨v0, e0, h0⟩ := hg.get (i := 0) rfl
      rw [e0, h0.str]
    refine ⟨_, rfl, .ref a, xs.length, rfl, .inr ⟨xs, hx, rfl⟩, rfl, _, rfl, ?_⟩
    cases ps with
    | nil =>
      have hl1 : xs.length = 1 := hlen
      exact iteT_ (by rw [hl1]; decide) (k H (Same.refl H))
    | cons p ps =>
    cases ps with
    | cons q ps =>
      have h3 : ¬ decide (V.int ((xs.length : Nat) : Int) = V.int 2) = true := vint_ne (by rw [hlen]; simp only [List.length_cons]; omega)
      have h4 : (!decide (V.int ((xs.length : Nat) : Int) = V.int 2)) = true := by simpa using h3
      have q1 := k H (Same.refl H)
      rw [show lfB w (p :: q :: ps) = false by cases p <;> rfl] at q1
      exact iteT_ h4 q1
    | nil =>
      have hl2 : xs.length = 2 := hlen
      refine iteF_ (by rw [hl2]; decide) ?_
      obtain ⟨v1, e1, h1⟩ := hg.get (i := 1) rfl
      obtain ⟨hgp, hnt⟩ := hp p List.mem_cons_self
      have at0 : atI xs 0 = some (.str w) := atI_nat (j := 0) hx0
      have at1 : atI xs 1 = some v1 := atI_nat (j := 1) e1
      refine ⟨_, rfl, a, xs, 0, _, rfl, rfl, hx, at0, rfl, _, rfl, ?_⟩
      have key : lfB w [p] = (decide (w = tuW) && titleG p || decide (w = plW) && nmG p) := by
        cases p <;> simp [lfB, leafB, titleG, nmG]
      refine ite2 (fun hw => ?_) (fun hw => ?_)
      · have hw' : w = tuW := V.str.inj (of_decide_eq_true hw)
        refine ⟨_, rfl, a, xs, 1, v1, rfl, rfl, hx, at1, v1, p, rfl, h1, gd_str hgp, fun H1 s1 => ⟨_, rfl, ?_⟩⟩
        have q1 := k H1 s1
        rw [key, decide_eq_true hw', Bool.true_and] at q1
        refine ite2 (fun ht => ?_) (fun ht => ?_)
        · rw [ht, Bool.true_or] at q1
          exact q1
        · have hn : decide (w = plW) = false := by rw [hw']; decide +kernel
          have ht' : titleG p = false := by simpa using ht
          rw [ht', hn] at q1
          refine ⟨_, rfl, a, xs, 0, _, rfl, rfl, sqt_same s1 hx, at0, rfl, _, rfl, iteF_ (fun z => ?_) q1⟩
          have := V.str.inj (of_decide_eq_true z)
          rw [this] at hn
          revert hn
          decide +kernel
      · have hw' : decide (w = tuW) = false := decide_eq_false fun z => hw (by rw [z]; exact decide_eq_true rfl)
        rw [hw', Bool.false_and, Bool.false_or] at key
        refine ⟨_, rfl, iteF_ Bool.false_ne_true ?_⟩
        refine ⟨_, rfl, a, xs, 0, _, rfl, rfl, hx, at0, rfl, _, rfl, ?_⟩
        refine ite2 (fun hp2 => ?_) (fun hp2 => ?_)
        · have hp' : w = plW := V.str.inj (of_decide_eq_true hp2)
          obtain ⟨d, d1, d2, d3⟩ := gd_dm hgp h1 hnt
          refine ⟨_, rfl, a, xs, 1, v1, rfl, rfl, hx, at1, v1, d, rfl, d1, d2, fun H1 s1 => ?_⟩
          have q1 := k H1 s1
          rw [key, decide_eq_true hp', Bool.true_and, ← d3] at q1
          exact q1
        · have hp' : decide (w = plW) = false := decide_eq_false fun z => hp2 (by rw [z]; exact decide_eq_true rfl)
          have q1 := k H (Same.refl H)
          rw [key, hp', Bool.false_and] at q1
          exact q1
end
end K1
set_option Elab.async false
set_option linter.all false
set_option maxRecDepth 100000
set_option maxHeartbeats 2000000
namespace K1
open PySem PySem.Spec PyProof.Rows L2
open PySem.W (EachIs)
theorem sum_take {ns : List Nat} {i : Nat} {n : Nat} (h : ns[i]? = some n) : (ns.take i).sum + n ≤ ns.sum := by
  have e := take_snoc h
  have h2 : ns = ns.take (i + 1) ++ ns.drop (i + 1) := (List.take_append_drop _ _).symm
  have h3 : ns.sum = (ns.take (i + 1)).sum + (ns.drop (i + 1)).sum := by
    conv => lhs; rw [h2]
    rw [List.sum_append]
  rw [h3, e, List.sum_append]
  simp
theorem ne_nil {K : PySem.W.Frag} {H : Hp} {xs : List V} {g : G} {gs : List G} (h : InL K H xs (g :: gs)) : xs ≠ [] := fun z => by
  have := h.len
  rw [z] at this
  cases this
/-- what plan_points tells -/
def ppv (l r : Nat) (g : G) : Nat := if planB l g = true ∧ ptsP l g ≤ r then ptsP l g else 0
theorem ppv_no {l r : Nat} {g : G} (h : ¬ (planB l g = true ∧ ptsP l g ≤ r)) : ppv l r g = 0 := if_neg h
theorem ppv_is {l r : Nat} {g : G} (h : planB l g = true ∧ ptsP l g ≤ r) : ppv l r g = ptsP l g := if_pos h
theorem ppv_ne {l r : Nat} {g : G} (h : ppv l r g ≠ 0) : planB l g = true ∧ ptsP l g ≤ r := by
  by_cases q : planB l g = true ∧ ptsP l g ≤ r
  · exact q
  · exact absurd (ppv_no q) h
abbrev sPp : Stmt := topS 19
abbrev nPp : List Str := ["thing", "levels", "room", "taken", "inner", "more"]
def spPp (K : PySem.W.Frag) (n : Nat) : Sp := fun vs H Q _ => ∃ (v : V) (g : G) (l r : Nat), vs = [v, .int l, .int r] ∧ In K H v g ∧ gd g = true ∧ sz g ≤ 5000 ∧ l ≤ n ∧ ∀ H', Same H H' → Q (.int (ppv l r g)) H'
section
variable {P : Program} {w : World} {K : PySem.W.Frag} {mg : Str → Option Value} {base : Heap}
theorem scPp : FnScope nPp ["thing", "levels", "room"] (defScope sPp) := ⟨rfl, rfl, rfl, by decide +kernel, rfl, by decide +kernel, by decide +kernel⟩
theorem ok_pp {f aI : Addr} {es : Array DictEntry} {mI : Nat} {fd : FuncData} {n m : Nat} {spI : Sp} (F : Fun K "plan_points" "plan_points" sPp f fd) (IH : Df P w K mg base C8.CX0 "plan_points" m ["thing", "levels", "room"] spI)
    (hI : ∀ l, l + 1 ≤ n → ∀ vs H Q E, (∃ (v : V) (g : G) (r : Nat), vs = [v, .int l, .int r] ∧ In K H v g ∧ gd g = true ∧ sz g ≤ 5000 ∧ ∀ H', Same H H' → Q (.int (ppv l r g)) H') → spI vs H Q E)
    (DL : Df P w K mg base C8.CX0 "is_leaf" 4 ["plan"] (spLeaf K)) (I : Inr K w mg aI es mI) (T : Ct mg) (hm : 4 ≤ m) :
    FnOk P w K mg base C8.CX0 (m + 1) f fd ["thing", "levels", "room"] (spPp K n) := by
  refine F.ok scPp (fun vs H Q E h => ?_) (fun cdv A outer s H vs Q E hr h => ?_)
  · obtain ⟨v, g, l, r, rfl, _⟩ := h
    rfl
  · obtain ⟨v, g, l, r, rfl, hin, hf, hz, hl, k⟩ := h
    have hr3 : Room 4 _ := hr.mono hm
    refine ⟨_, pss_cons (ps_if (PW.pt (pw_or (pt_cmpR op_eq (pv 1) pe_int (nomark _)) (pw_or (pt_cmpR op_eq (pv 2) pe_int (nomark _)) (pw_or (pt_not (pt_val (pe_callB call_isi (by rfl) T.isi boot_isinstance (pa_cons (pv 0) (pa_cons (pe_bltn (v := .ty "tuple") (by rfl) T.tuple boot_tuple rfl) pa_nil)))))
          (pw_or (pt_not (pt_truth (pv 0) (by intro _; rfl))) (pw_or1 (pt_not (pt_val (pe_callB call_isi (by rfl) T.isi boot_isinstance (pa_cons (pe_ix ix_tup (pv 0) pe_int (fun _ _ => rfl)) (pa_cons (pe_bltn (v := .ty "str") (by rfl) T.str boot_str rfl) pa_nil))))))))))) (pss_one (ps_ret pe_int)) pss_nil)
      (pss_cons (ps_if (pt_cmpR (op_noI I) (pe_ix ix_tup (pv 0) pe_int (fun _ _ => rfl)) (pe_glob (v := .ref aI) (by rfl) I.g rfl) (by rfl)) (pss_one (ps_ret (pe_ifExp (pt_val (pe_df DL hr3 pass0 (pa_cons (pv 0) pa_nil))) pe_int pe_int))) pss_nil)
      (pss_cons (ps_if (pt_cmpR op_ne (pe_op op_sub (pe_callB call_len (by rfl) T.len PySem.boot_len (pa_cons (pv 0) pa_nil)) pe_int) (pe_ix (ix_I I) (pe_glob (v := .ref aI) (by rfl) I.g rfl) (pe_ix ix_tup (pv 0) pe_int (fun _ _ => rfl)) (fun _ _ => rfl)) (nomark _)) (pss_one (ps_ret pe_int)) pss_nil)
      (pss_cons (ps_set (i := 3) scPp.nd rfl (Or.inl rfl) pe_int)
      (pss_cons (ps_for PassesOwn.never rfl (pi_tup (pe_slice sl_tup (pv 0) (po_some pe_int) po_none)) (pg_name (i := 4) scPp.nd rfl (Or.inl rfl))
        (pss_cons (ps_set (i := 5) scPp.nd rfl (Or.inl rfl) (pe_df IH hr pass0 (pa_cons (pv 4) (pa_cons (pe_op op_sub (pv 1) pe_int) (pa_cons (pe_op op_sub (pv 2) (pv 3)) pa_nil))) (Nat.le_refl _)))
        (pss_cons (ps_if (pt_cmpR op_eq (pv 5) pe_int (nomark _)) (pss_one (ps_ret pe_int)) pss_nil)
        (pss_one (ps_aug (i := 3) scPp.nd rfl (.inl rfl) (pv 5) ip_add)))))
      (pss_one (ps_ret (pv 3))))))), ?_⟩
    have hq : ∀ (b : Nat) (H' : Hp), b = ppv l r g → Same H H' → Q (.int b) H' := fun b H' e sm => by
      rw [e]
      exact k H' sm
    have hq0 : ∀ (H' : Hp), ppv l r g = 0 → Same H H' → Q (.int 0) H' := fun H' e sm => hq 0 H' e.symm sm
    have p1 := pts_pos l g
    refine ⟨_, rfl, rfl, _, rfl, ?_⟩
    cases l with
    | zero => exact iteT_ (by decide) (iteT_ rfl (hq0 H (ppv_no fun z => by simp [planB] at z) (Same.refl H)))
    | succ l =>
    refine iteF_ (vint_ne (by omega)) ?_
    refine ⟨_, rfl, rfl, _, rfl, ?_⟩
    by_cases hr0 : r = 0
    · exact iteT_ (vint_eq (by omega)) (iteT_ rfl (hq0 H (ppv_no fun z => by omega) (Same.refl H)))
    refine iteF_ (vint_ne (by omega)) ?_
    obtain ⟨d', t1', t2'⟩ := isi_tup hin
    refine ⟨_, rfl, _, _, _, _, _, rfl, .ty "tuple", t1', t2', _, rfl, ?_⟩
    have noT : isT g = false → ppv (l + 1) r g = 0 := fun a => ppv_no fun z => by
      cases g with
      | t ps => cases a
      | _ => simp [planB] at z
    cases hT : isT g with
    | false => exact iteT_ rfl (iteT_ rfl (hq0 H (noT hT) (Same.refl H)))
    | true =>
      obtain ⟨wd, ps, rfl, hw, hps, hfl⟩ : ∃ wd ps, g = .t (.s wd :: ps) ∧ txB wd = true ∧ (∀ p ∈ ps, gd p = true) ∧ (ar wd = none → ∀ p ∈ ps, ∀ qs, p ≠ .t qs) := by
        rcases gd_cases hf with ⟨x, rfl, _⟩ | rfl | h
        · cases hT
        · cases hT
        · exact h
      refine iteF_ Bool.false_ne_true ?_
      have hin0 := hin
      obtain ⟨a, xs, rfl, hx, hg⟩ := hin.tup
      have hlen := hg.len
      have hsl := sz_len (.s wd :: ps)
      rw [List.length_cons] at hlen hsl
      have hne := ne_nil hg
      have hemp : (!xs.isEmpty) = true := by cases xs with | nil => exact absurd rfl hne | cons _ _ => rfl
      have hx0 : xs[0]? = some (.str wd) := by
        obtain ⟨v0, e0, h0⟩ := hg.get (i := 0) rfl
        rw [e0, h0.str]
      have at0 : atI xs 0 = some (.str wd) := atI_nat (j := 0) hx0
      refine ⟨_, rfl, true, .inr (.inl ⟨xs, hx, hemp.symm⟩), iteF_ Bool.false_ne_true ?_⟩
      obtain ⟨d2, u1, u2⟩ := isi_str (.s wd : In K H (.str wd) (.s wd))
      refine ⟨_, rfl, a, xs, 0, _, rfl, rfl, hx, at0, _, _, _, _, _, rfl, .ty "str", u1, u2, _, rfl, iteF_ Bool.false_ne_true ?_⟩
      refine ⟨_, rfl, a, xs, 0, _, rfl, rfl, hx, at0, wd, rfl, rfl, _, rfl, ?_⟩
      cases ha : ar wd with
      | none =>
        refine iteT_ rfl ?_
        refine ⟨_, rfl, .ref a, wd, ps, rfl, hin0, fun p hp => ⟨hps p hp, hfl ha p hp⟩, by omega, fun H1 s1 => ⟨_, rfl, ?_⟩⟩
        have e1 : planB (l + 1) (.t (.s wd :: ps)) = lfB wd ps := by
          unfold planB lfB
          rw [ha]
          all_goals rfl
        have e2 : ptsP (l + 1) (.t (.s wd :: ps)) = 1 := by unfold ptsP; rw [ha]
        refine ite2 (fun h => hq 1 H1 ?_ s1) (fun h => hq 0 H1 ?_ s1)
        · rw [ppv_is ⟨by rw [e1]; exact h, by omega⟩, e2]
        · exact (ppv_no fun z => h (by rw [← e1]; exact z.1)).symm
      | some nn =>
        refine iteF_ Bool.false_ne_true ?_
        have e1 : planB (l + 1) (.t (.s wd :: ps)) = (decide (ps.length = nn) && ps.all (planB l)) := by
          conv => lhs; unfold planB
          rw [ha]
        have e2 : ptsP (l + 1) (.t (.s wd :: ps)) = 1 + (ps.map (ptsP l)).sum := by
          conv => lhs; unfold ptsP
          rw [ha]
        have en : ((xs.length : Nat) : Int) - 1 = ((ps.length : Nat) : Int) := by omega
        refine ⟨_, rfl, .ref a, xs.length, rfl, .inr ⟨xs, hx, rfl⟩, _, _, rfl, rfl, _, rfl, a, xs, 0, _, rfl, rfl, hx, at0, wd, nn, rfl, rfl, ha, rfl, _, rfl, ?_⟩
        by_cases hn : ps.length = nn
        · refine iteF_ (by show ¬ (!decide (V.int ((xs.length : Int) - 1) = V.int nn)) = true; rw [en, hn]; simp) ?_
          refine ⟨_, rfl, _, rfl, a, xs, rfl, hx, whole_1 hne, fun q hq2 => ⟨q, rfl, ⟨_, SqT.of upd_same⟩, ?_⟩⟩
          have sq := Same.new (o := .tup (cutV xs (some 1) none)) (Same.refl H) hq2
          have hgd : InL K (upd H q (.tup (cutV xs (some 1) none))) (cutV xs (some 1) none) ps := by
            have z := (hg.drop 1).same sq
            rw [← cut_1] at z
            exact z
          refine for_tup (K := K) (a := q) (xs := cutV xs (some 1) none) (fun i σ H' => ∃ (tk : Nat) (v5 v6 : Option V), σ = [some (.ref a), some (.int ((l + 1 : Nat) : Int)), some (.int r), some (.int tk), v5, v6] ∧ Same (upd H q (.tup (cutV xs (some 1) none))) H' ∧ tk = 1 + ((ps.take i).map (ptsP l)).sum ∧ tk ≤ r ∧ (∀ g ∈ ps.take i, planB l g = true))
            ⟨1, none, none, rfl, Same.refl _, by simp, by omega, fun g hg => by simp at hg⟩ (fun i σ H' _ ⟨_, _, _, _, sm, _⟩ => sqt_same sm (SqT.of upd_same)) ?_ ?_
          · rintro i x σ H' hi ⟨tk, v5, v6, rfl, sm, etk, htk, hall⟩
            obtain ⟨g, hgi, hgin⟩ := hgd.at hi
            have hgm := List.mem_of_getElem? hgi
            have hgm' : g ∈ G.s wd :: ps := List.mem_cons_of_mem _ hgm
            have hst := sum_take (ns := ps.map (ptsP l)) (i := i) (n := ptsP l g) (by rw [List.getElem?_map, hgi]; rfl)
            rw [← List.map_take] at hst
            have l1 : (((l + 1 : Nat) : Int) - 1) = ((l : Nat) : Int) := by omega
            have r1 : ((r : Int) - tk) = ((r - tk : Nat) : Int) := by omega
            refine ⟨_, rfl, _, rfl, _, _, rfl, rfl, _, rfl, _, rfl, _, _, rfl, rfl, ?_⟩
            refine hI l (by omega) _ _ _ _ ⟨x, g, r - tk, (by show [x, V.int (((l + 1 : Nat) : Int) - 1), V.int ((r : Int) - tk)] = _; rw [l1, r1]), hgin.same sm, hps g hgm, by have := sz_mem hgm'; omega, fun H2 s2 => ⟨_, rfl, rfl, _, rfl, ?_⟩⟩
            have sAll := (sq.trans sm).trans s2
            refine ite2 (fun h5 => hq0 H2 (ppv_no fun z => ?_) sAll) (fun h5 => ?_)
            · have h5' : ppv l (r - tk) g = 0 := by
                have z := V.int.inj (of_decide_eq_true h5)
                omega
              obtain ⟨z1, z2⟩ := z
              rw [e1, Bool.and_eq_true, List.all_eq_true] at z1
              rw [ppv_is ⟨z1.2 g hgm, by omega⟩] at h5'
              have := pts_pos l g
              omega
            · have h5' : ppv l (r - tk) g ≠ 0 := fun z => h5 (by rw [z]; rfl)
              have z := ppv_ne h5'
              rw [ppv_is z]
              refine ⟨_, rfl, _, rfl, _, _, rfl, rfl, tk + ptsP l g, _, _, rfl, sm.trans s2, ?_, by omega, ?_⟩
              · rw [take_snoc hgi, List.map_append, List.sum_append, etk]
                simp
                omega
              · intro g' hg'
                rw [take_snoc hgi] at hg'
                rcases List.mem_append.mp hg' with hg' | hg'
                · exact hall g' hg'
                · rw [List.mem_singleton.mp hg']
                  exact z.1
          · rintro σ H' ⟨tk, v5, v6, rfl, sm, etk, htk, hall⟩
            rw [hgd.len, List.take_length] at etk hall
            refine ⟨_, rfl, hq tk H' ?_ (sq.trans sm)⟩
            rw [ppv_is ⟨?_, by omega⟩, e2, etk]
            rw [e1, decide_eq_true hn, Bool.true_and, List.all_eq_true]
            exact hall
        · refine iteT_ (by show (!decide (V.int ((xs.length : Int) - 1) = V.int nn)) = true; rw [en]; simpa using fun z => hn (by omega)) (hq0 H (ppv_no fun z => ?_) (Same.refl H))
          rw [e1, decide_eq_false hn] at z
          cases z.1
abbrev sIsPlan : Stmt := topS 20
structure Cp (mg : Str → Option Value) : Prop where
  mw : ∃ t, mg "MOST_WITHIN" = some (.int 12 t)
  ma : ∃ t, mg "MOST_IN_ALL" = some (.int 60 t)
def spG (K : PySem.W.Frag) (f : G → Bool) : Sp := fun vs H Q _ => ∃ (v : V) (g : G), vs = [v] ∧ In K H v g ∧ gd g = true ∧ sz g ≤ 5000 ∧ ∀ H', Same H H' → Q (.bl (f g)) H'
theorem scIsPlan : FnScope ["thing"] ["thing"] (defScope sIsPlan) := ⟨rfl, rfl, rfl, by decide +kernel, rfl, by decide +kernel, by decide +kernel⟩
theorem ok_isPlan {f : Addr} {fd : FuncData} {m : Nat} (F : Fun K "is_plan" "is_plan" sIsPlan f fd) (DP : Df P w K mg base C8.CX0 "plan_points" m ["thing", "levels", "room"] (spPp K 12)) (T : Cp mg) :
    FnOk P w K mg base C8.CX0 (m + 1) f fd ["thing"] (spG K isPl) := by
  refine F.ok scIsPlan (fun vs H Q E h => ?_) (fun cdv A outer s H vs Q E hr h => ?_)
  · obtain ⟨v, g, rfl, _⟩ := h
    rfl
  · obtain ⟨v, g, rfl, hin, hf, hz, k⟩ := h
    obtain ⟨_, gw⟩ := T.mw
    obtain ⟨_, ga⟩ := T.ma
    refine ⟨_, pss_one (ps_ret (pe_cmpR op_gt (pe_df DP hr pass0 (pa_cons (pv 0) (pa_cons (pe_glob (v := .int 12) (by rfl) gw ⟨_, rfl⟩) (pa_cons (pe_glob (v := .int 60) (by rfl) ga ⟨_, rfl⟩) pa_nil))) (Nat.le_refl _)) pe_int (nomark _))), ?_⟩
    refine ⟨_, rfl, v, g, 12, 60, rfl, hin, hf, hz, Nat.le_refl _, fun H' s' => ⟨_, _, rfl, rfl, ?_⟩⟩
    have q1 := k H' s'
    have e : isPl g = decide ((0 : Int) < ((ppv 12 60 g : Nat) : Int)) := by
      unfold isPl
      have := pts_pos 12 g
      by_cases h : planB 12 g = true ∧ ptsP 12 g ≤ 60
      · rw [ppv_is h, h.1, decide_eq_true h.2, decide_eq_true (by omega)]
        rfl
      · rw [ppv_no h, decide_eq_false (show ¬ (0 : Int) < ((0 : Nat) : Int) by omega)]
        cases h1 : planB 12 g with
        | false => rfl
        | true => rw [decide_eq_false (fun z => h ⟨h1, z⟩)]; rfl
    rw [e] at q1
    exact q1
end
end K1
set_option Elab.async false
set_option linter.all false
set_option maxRecDepth 100000
set_option maxHeartbeats 2000000
namespace K1
open PySem PySem.Spec PyProof.Rows L2
open PySem.W (EachIs)
abbrev sWordsOf : Stmt := topS 23
abbrev nWordsOf : List Str := ["text", "words", "word", "letter"]
abbrev mk3 : List V := [.str oP, .str cP, .str cm]
/-- the name MARKS -/
structure Mks (K : PySem.W.Frag) (mg : Str → Option Value) (aM : Addr) : Prop where
  g : mg "MARKS" = some (.ref aM)
  t : ∀ H, SqT K H aM mk3
def rAdS : V → V → Hp → VK → Prop := fun x y H Q => ∃ i j, x = .str i ∧ y = .str j ∧ i.length + j.length ≤ sizeLine ∧ Q (.str (i ++ j)) H
theorem ip_addS {X : Cx} : PIp X .Add rAdS := fun pins s σ H x y v u Q I rx ry h => iop_add_str pins s σ H x y v u Q I rx ry h
theorem in3 (x a b c : Str) : inV (.str x) [.str a, .str b, .str c] = decide (x ∈ [a, b, c]) := by
  unfold inV
  simp only [List.any_cons, List.any_nil, Bool.or_false, eqV]
  rw [Bool.eq_iff_iff]
  simp only [Bool.or_eq_true, beq_iff_eq, decide_eq_true_iff, List.mem_cons, List.not_mem_nil, or_false]
  constructor
  · rintro (h | h | h)
    · exact .inl h.symm
    · exact .inr (.inl h.symm)
    · exact .inr (.inr h.symm)
  · rintro (h | h | h)
    · exact .inl h.symm
    · exact .inr (.inl h.symm)
    · exact .inr (.inr h.symm)
theorem in_mk (x : Str) : inV (.str x) mk3 = isMk x := in3 x _ _ _
theorem flat_mk : mk3.all flatV = true := rfl
def spWordsOf : Sp := fun vs H Q _ => ∃ (x : Str), vs = [.str x] ∧ x.length ≤ 100000 ∧ ∀ a H', Same H H' → H a = none → H' a = some (.lst ((wrun x).map V.str)) → Q (.ref a) H'
section
variable {P : Program} {w : World} {K : PySem.W.Frag} {mg : Str → Option Value} {base : Heap}
theorem scWordsOf : FnScope nWordsOf ["text"] (defScope sWordsOf) := ⟨rfl, rfl, rfl, by decide +kernel, rfl, by decide +kernel, by decide +kernel⟩
theorem ok_wordsOf {f aM : Addr} {fd : FuncData} (F : Fun K "words_of" "words_of" sWordsOf f fd) (M : Mks K mg aM) : FnOk P w K mg base C8.CX0 1 f fd ["text"] spWordsOf := by
  refine F.ok scWordsOf (fun vs H Q E h => ?_) (fun cdv A outer s H vs Q E hr h => ?_)
  · obtain ⟨x, rfl, _⟩ := h
    rfl
  · obtain ⟨x, rfl, hx, k⟩ := h
    refine ⟨_, pss_cons (ps_set (i := 1) scWordsOf.nd rfl (Or.inl rfl) (pe_lst pa_nil))
      (pss_cons (ps_set (i := 2) scWordsOf.nd rfl (Or.inl rfl) pe_str)
      (pss_cons (ps_for PassesOwn.never rfl (pi_str (pv 0)) (pg_name (i := 3) scWordsOf.nd rfl (Or.inl rfl))
        (pss_one (ps_if (pt_cmpR op_in_seq (pv 3) (pe_glob (v := .ref aM) (by rfl) M.g rfl) (by rfl))
          (pss_cons (ps_expr (pe_bm PySem.F.plainAttrs_list PySem.F.slot_list_extend PySem.F.type_list_extend mt_extend (pv 1) (pa_cons (pe_ifExp (pt_truth (pv 2) (by intro _; rfl)) (pe_lst (pa_cons (pv 2) (pa_cons (pv 3) pa_nil))) (pe_lst (pa_cons (pv 3) pa_nil))) pa_nil)))
            (pss_one (ps_set (i := 2) scWordsOf.nd rfl (Or.inl rfl) pe_str)))
          (pss_one (ps_aug (i := 2) scWordsOf.nd rfl (.inl rfl) (pv 3) ip_addS)))))
      (pss_one (ps_ret (pe_ifExp (pt_truth (pv 2) (by intro _; rfl)) (pe_op op_cat (pv 1) (pe_lst (pa_cons (pv 2) pa_nil))) (pv 1)))))), ?_⟩
    have hsz := sizeLine_eq
    refine ⟨(by show 0 ≤ sizeLine; exact Nat.zero_le _), fun W hW => ?_⟩
    have s0 := Same.new (o := .lst []) (Same.refl H) hW
    refine ⟨_, rfl, x, rfl, ?_⟩
    refine for_it walk_str (fun i σ H' => ∃ (st : List Str × Str) (v3 : Option V), st = (x.cps.toList.take i).foldl wst ([], Str.empty) ∧ σ = [some (.str x), some (.ref W), some (.str st.2), v3] ∧ H' W = some (.lst (st.1.map V.str)) ∧ Same H H' ∧ st.1.length ≤ 2 * i ∧ st.2.length ≤ i)
      ⟨_, none, rfl, rfl, upd_same, s0, Nat.le_refl _, Nat.le_refl _⟩ (fun _ _ _ _ _ => trivial) ?_ ?_
    · rintro i v σ H2 H1 hi ⟨st, v3, e, rfl, eW, s1, l1, l2⟩ ⟨rfl, c, hc, rfl⟩
      have hxl : x.cps.size = x.length := rfl
      have et : (x.cps.toList.take (i + 1)).foldl wst ([], Str.empty) = wst st c := by
        rw [List.take_succ, Array.getElem?_toList, hc, e, List.foldl_append]
        rfl
      refine ⟨_, rfl, aM, mk3, rfl, .inr (M.t _), rfl, flat_mk, isMk (ch c), congrArg V.bl (in_mk (ch c)), ?_⟩
      cases q : isMk (ch c) with
      | true =>
        refine iteT ?_
        have h2 := wst_mark (s := st) q
        have goal : ∀ (zs : List V) (H3 : Hp), Same H1 H3 → zs.length ≤ 2 → st.1.map V.str ++ zs = (wend st ++ [ch c]).map V.str → ∃ (st' : List Str × Str) (v3 : Option V), st' = (x.cps.toList.take (i + 1)).foldl wst ([], Str.empty) ∧ [some (.str x), some (.ref W), some (.str Str.empty), some (.str (ch c))] = [some (.str x), some (.ref W), some (.str st'.2), v3] ∧ (upd H3 W (.lst (st.1.map V.str ++ zs))) W = some (.lst (st'.1.map V.str)) ∧ Same H (upd H3 W (.lst (st.1.map V.str ++ zs))) ∧ st'.1.length ≤ 2 * (i + 1) ∧ st'.2.length ≤ i + 1 := fun zs H3 s3 hz ez => by
          refine ⟨(wend st ++ [ch c], Str.empty), some (.str (ch c)), by rw [et, h2], rfl, by rw [upd_same, ez], same_J (H := H) hW _ _ _ (s1.trans s3) (s3 _ _ eW), ?_, Nat.zero_le _⟩
          have := congrArg List.length ez
          simp only [List.length_append, List.length_map] at this
          show (wend st ++ [ch c]).length ≤ _
          rw [List.length_append]
          omega
        refine ⟨_, rfl, .inl ⟨rfl, _, SqL.of eW⟩, _, rfl, ((st.2.length : Int) != 0), ⟨by omega, rfl⟩, ?_⟩
        refine ite2 (fun hk => ?_) (fun hk => ?_)
        · have hne : st.2 ≠ Str.empty := fun z => by rw [z] at hk; revert hk; decide
          refine ⟨_, rfl, _, rfl, (by show 2 ≤ sizeLine; omega), fun b hb => ⟨W, b, _, _, rfl, rfl, (Same.new (Same.refl H1) hb) _ _ eW, upd_same, (by simp only [List.length_map, List.length_cons, List.length_nil]; omega), ?_⟩⟩
          exact goal _ _ (Same.new (Same.refl H1) hb) (by simp) (by unfold wend; rw [if_neg hne]; simp; rfl)
        · have he : st.2 = Str.empty := by
            have : st.2.length = 0 := by simpa using hk
            exact ext_l (List.length_eq_zero_iff.mp (by rw [len_toList]; exact this))
          refine ⟨_, rfl, (by show 1 ≤ sizeLine; omega), fun b hb => ⟨W, b, _, _, rfl, rfl, (Same.new (Same.refl H1) hb) _ _ eW, upd_same, (by simp only [List.length_map, List.length_cons, List.length_nil]; omega), ?_⟩⟩
          exact goal _ _ (Same.new (Same.refl H1) hb) (by simp) (by unfold wend; rw [if_pos he]; simp; rfl)
      | false =>
        refine iteF ?_
        have h2 : wst st c = (st.1, st.2 ++ ch c) := by
          unfold wst
          rw [if_neg (by rw [q]; exact Bool.false_ne_true)]
        have hx2 : i < x.length := hi
        refine ⟨_, rfl, _, rfl, st.2, ch c, rfl, rfl, (by show st.2.length + 1 ≤ sizeLine; omega), ?_⟩
        refine ⟨wst st c, some (.str (ch c)), et.symm, by rw [h2]; rfl, by rw [h2]; exact eW, s1, by rw [h2]; show st.1.length ≤ _; omega, by rw [h2]; show (st.2 ++ ch c).length ≤ _; rw [app_len]; show st.2.length + 1 ≤ _; omega⟩
    · rintro σ H1 ⟨st, v3, e, rfl, eW, s1, l1, l2⟩
      have hx2 : x.cps.size = x.length := rfl
      have ew : wrun x = wend st := by
        unfold wrun
        rw [e, show x.cps.toList.take x.cps.size = x.cps.toList from List.take_of_length_le (by simp)]
      refine ⟨_, rfl, ((st.2.length : Int) != 0), ⟨by omega, rfl⟩, ?_⟩
      refine ite2 (fun hk => ?_) (fun hk => ?_)
      · have hne : st.2 ≠ Str.empty := fun z => by rw [z] at hk; revert hk; decide
        refine ⟨_, rfl, _, rfl, (by show 1 ≤ sizeLine; omega), fun b hb => ⟨W, b, _, _, rfl, rfl, (Same.new (Same.refl H1) hb) _ _ eW, upd_same, (by simp only [List.length_map, List.length_cons, List.length_nil]; omega), fun p hp => ?_⟩⟩
        have sb := Same.new (o := .lst [.str st.2]) (Same.refl H1) hb
        refine k _ _ ((s1.trans sb).trans (Same.new (Same.refl _) hp)) (Same.free (s1.trans sb) hp) ?_
        rw [upd_same, ew]
        unfold wend
        rw [if_neg hne]
        simp
      · have he : st.2 = Str.empty := by
          have : st.2.length = 0 := by simpa using hk
          exact ext_l (List.length_eq_zero_iff.mp (by rw [len_toList]; exact this))
        refine ⟨_, rfl, k _ _ s1 hW ?_⟩
        rw [eW, ew]
        unfold wend
        rw [if_pos he]
end
end K1
set_option Elab.async false
set_option linter.all false
set_option maxRecDepth 100000
set_option maxHeartbeats 2000000
namespace K1
open PySem PySem.Spec PyProof.Rows L2
open PySem.W (EachIs)
abbrev sTreeOf : Stmt := topS 24
abbrev nTreeOf : List Str := ["words", "waiting", "parts", "wanted", "at", "word", "made"]
def wd1 : G → Nat
  | .t qs => qs.length
  | _ => 1
def wds (gs : List G) : Nat := (gs.map wd1).sum
def wdw (w : List (List G)) : Nat := (w.map wds).sum
theorem wds_app (a b : List G) : wds (a ++ b) = wds a + wds b := by simp [wds]
theorem wdw_app (a b : List (List G)) : wdw (a ++ b) = wdw a + wdw b := by simp [wdw]
theorem wds_one (g : G) : wds [g] = wd1 g := by simp [wds]
theorem wdw_one (g : List G) : wdw [g] = wds g := by simp [wdw]
theorem wds_len : ∀ gs : List G, (∀ g ∈ gs, shp g = true) → gs.length ≤ wds gs
  | [], _ => Nat.zero_le _
  | g :: gs, h => by
    have h1 := wds_len gs fun q hq => h q (List.mem_cons_of_mem _ hq)
    have h2 : 1 ≤ wd1 g := by
      rcases shp_cases (h g List.mem_cons_self) with ⟨y, rfl⟩ | ⟨y, rs, rfl, hr⟩
      · exact Nat.le_refl 1
      · show 1 ≤ (G.s y :: rs).length
        simp
    rw [show wds (g :: gs) = wd1 g + wds gs by simp [wds], List.length_cons]
    omega
/-- what holds of the parser's state -/
structure PIv (i : Nat) (s : PSt) : Prop where
  p : s.parts.length ≤ i
  w : s.wait.length ≤ i
  pw : ∀ ps ∈ s.wait, ps.length ≤ i
  sp : ∀ g ∈ s.parts, shp g = true
  sw : ∀ ps ∈ s.wait, ∀ g ∈ ps, shp g = true
  m : wds s.parts + wdw s.wait ≤ i
theorem PIv.init : PIv 0 ⟨[], [], true⟩ := ⟨Nat.le_refl _, Nat.le_refl _, by simp, by simp, by simp, Nat.le_refl _⟩
theorem leaf_wd (x : Str) : wd1 (leafG x) = 1 := by
  unfold leafG
  split <;> rfl
theorem inL_last {K : PySem.W.Frag} {H : Hp} {g : G} : ∀ {gs : List G} {xs : List V}, InL K H xs (gs ++ [g]) → ∃ xs0 y, xs = xs0 ++ [y] ∧ InL K H xs0 gs ∧ In K H y g
  | [], _, .cons h .nil => ⟨[], _, rfl, .nil, h⟩
  | _ :: gs, _, .cons h t => by
    obtain ⟨xs0, y, rfl, h1, h2⟩ := inL_last t
    exact ⟨_ :: xs0, y, rfl, .cons h h1, h2⟩
theorem leaf_shp (x : Str) : shp (leafG x) = true := by
  unfold leafG
  split
  · rw [shp]
  · rw [shp_t]
    rfl
theorem last_app {α : Type} {l : List α} {a : α} (h : l.getLast? = some a) : l = l.dropLast ++ [a] := by
  rw [List.getLast?_eq_some_iff] at h
  obtain ⟨ys, rfl⟩ := h
  simp
theorem PIv.step {i : Nat} {s s' : PSt} {pv : Option Str} {x : Str} (h : PIv i s) (e : pst pv s x = some s') : PIv (i + 1) s' := by
  unfold pst at e
  split at e
  · cases e
    refine ⟨by have := h.p; simp; omega, by have := h.w; show s.wait.length ≤ _; omega, fun ps hp => by have := h.pw ps hp; omega, fun g hg => ?_, h.sw, by have := h.m; show wds (s.parts ++ [leafG x]) + wdw s.wait ≤ _; rw [wds_app, wds_one, leaf_wd]; omega⟩
    rcases List.mem_append.mp hg with hg | hg
    · exact h.sp g hg
    · rw [List.mem_singleton.mp hg]
      exact leaf_shp x
  split at e
  · cases e
    refine ⟨by simp, by have := h.w; simp; omega, fun ps hp => ?_, by simp, fun ps hp g hg => ?_, by have := h.m; show wds [] + wdw (s.wait ++ [s.parts]) ≤ _; rw [wdw_app, wdw_one]; simp [wds]; simp [wds] at this; omega⟩
    · rcases List.mem_append.mp hp with hp | hp
      · have := h.pw ps hp
        omega
      · rw [List.mem_singleton.mp hp]
        have := h.p
        omega
    · rcases List.mem_append.mp hp with hp | hp
      · exact h.sw ps hp g hg
      · rw [List.mem_singleton.mp hp] at hg
        exact h.sp g hg
  split at e
  · cases e
    exact ⟨by have := h.p; show s.parts.length ≤ _; omega, by have := h.w; show s.wait.length ≤ _; omega, fun ps hp => by have := h.pw ps hp; omega, h.sp, h.sw, by have := h.m; show wds s.parts + wdw s.wait ≤ _; omega⟩
  split at e
  · cases q : s.wait.getLast? with
    | none => rw [q] at e; cases e
    | some ps =>
      rw [q] at e
      simp only at e
      have hm : ps ∈ s.wait := List.mem_of_getLast? q
      cases q2 : pclose ps s.parts with
      | none => rw [q2] at e; cases e
      | some qs' =>
        rw [q2] at e
        cases e
        unfold pclose at q2
        split at q2
        · next qs ql =>
          cases q2
          have hl := last_app ql
          have hlen := congrArg List.length hl
          simp only [List.length_append, List.length_singleton] at hlen
          have := h.pw ps hm
          refine ⟨by simp only [List.length_append, List.length_singleton]; omega, by have := h.w; simp; omega, fun p hp => by have := h.pw p (List.dropLast_subset _ hp); omega, fun g hg => ?_, fun p hp => h.sw p (List.dropLast_subset _ hp), ?_⟩
          rotate_left
          · have h1 := h.m
            have h2 := wds_len _ h.sp
            have h3 := congrArg wdw (last_app q)
            have h4 := congrArg wds hl
            rw [wdw_app, wdw_one] at h3
            rw [wds_app, wds_one] at h4
            show wds (ps.dropLast ++ [.t (qs ++ s.parts)]) + wdw s.wait.dropLast ≤ _
            rw [wds_app, wds_one]
            show wds ps.dropLast + (qs ++ s.parts).length + _ ≤ _
            have h5 : wd1 (.t qs) = qs.length := rfl
            rw [List.length_append]
            omega
          rcases List.mem_append.mp hg with hg | hg
          · exact h.sw ps hm g (List.dropLast_subset _ hg)
          · rw [List.mem_singleton.mp hg]
            have sh := h.sw ps hm (.t qs) (List.mem_of_getLast? ql)
            rcases shp_cases sh with ⟨y, e⟩ | ⟨y, rs, e, hr⟩
            · cases e
            · cases e
              show shp (.t (.s y :: (rs ++ s.parts))) = true
              rw [shp_t, List.all_eq_true]
              intro p hp
              rcases List.mem_append.mp hp with hp | hp
              · exact hr p hp
              · exact h.sp p hp
        · cases q2
  · cases e
/-- lists that wait stand at these places -/
inductive RL (K : PySem.W.Frag) (H : Hp) : List Addr → List (List G) → Prop
  | nil : RL K H [] []
  | cons {r : Addr} {xs : List V} {gs : List G} {rs : List Addr} {w : List (List G)} (e : H r = some (.lst xs)) (q : InL K H xs gs) (t : RL K H rs w) : RL K H (r :: rs) (gs :: w)
theorem RL.snoc {K : PySem.W.Frag} {H : Hp} {r : Addr} {xs : List V} {gs : List G} (e : H r = some (.lst xs)) (q : InL K H xs gs) : ∀ {rs : List Addr} {w : List (List G)}, RL K H rs w → RL K H (rs ++ [r]) (w ++ [gs])
  | _, _, .nil => .cons e q .nil
  | _, _, .cons e' q' t => .cons e' q' (RL.snoc e q t)
theorem RL.last {K : PySem.W.Frag} {H : Hp} {gs : List G} : ∀ {w : List (List G)} {rs : List Addr}, RL K H rs (w ++ [gs]) → ∃ (rs' : List Addr) (r : Addr) (xs : List V), rs = rs' ++ [r] ∧ H r = some (.lst xs) ∧ InL K H xs gs ∧ RL K H rs' w
  | [], _, .cons e q .nil => ⟨[], _, _, rfl, e, q, .nil⟩
  | _ :: w, _, .cons e q t => by
    obtain ⟨rs', r, xs, rfl, h1, h2, h3⟩ := RL.last t
    exact ⟨_ :: rs', r, xs, rfl, h1, h2, .cons e q h3⟩
theorem RL.len {K : PySem.W.Frag} {H : Hp} : ∀ {w : List (List G)} {rs : List Addr}, RL K H rs w → rs.length = w.length
  | _, _, .nil => rfl
  | _, _, .cons _ _ t => by simp [RL.len t]
/-- the heap changed elsewhere, tuples stand -/
theorem RL.mono {K : PySem.W.Frag} {H H' : Hp} (s : TupK H H') : ∀ {w : List (List G)} {rs : List Addr}, RL K H rs w → (∀ r ∈ rs, ∀ o, H r = some o → H' r = some o) → (∀ ps ∈ w, ∀ g ∈ ps, shp g = true) → RL K H' rs w
  | _, _, .nil, _, _ => .nil
  | _, _, .cons e q t, h, sh => .cons (h _ List.mem_cons_self _ e) (inL_tk s _ _ (sh _ List.mem_cons_self) q) (RL.mono s t (fun r hr => h r (List.mem_cons_of_mem _ hr)) fun p hp => sh p (List.mem_cons_of_mem _ hp))
theorem ite_sk {c : Bool} {A U T : Prop} (h1 : c = true → U → A) (hU : U) : if c = true then A else (if false = true then T else U) := by
  cases c with
  | true => exact h1 rfl hU
  | false => exact hU
def spTreeOf (K : PySem.W.Frag) : Sp := fun vs H Q _ => ∃ (a : Addr) (ws : List Str), vs = [.ref a] ∧ H a = some (.lst (ws.map V.str)) ∧ (∀ w ∈ ws, Wd0 w ∧ w.length ≤ 1000) ∧ ws.length ≤ 100000 ∧ ∀ v H', Same H H' → (∀ g, treeP ws = some g → In K H' v g) → (treeP ws = none → v = .non) → Q v H'
theorem treeP_none {ws : List Str} {i : Nat} (h : prun (ws.take i) = none) : treeP ws = none := by
  have : prun ws = none := by
    unfold prun at h ⊢
    rw [← List.take_append_drop i ws, List.foldl_append, h, pf_none]
  unfold treeP
  rw [this]
theorem eq_or_ne_nil {α : Type} (l : List α) : l = [] ∨ ∃ a b, l = a ++ [b] := by
  rcases List.eq_nil_or_concat l with h | ⟨a, b, h⟩
  · exact .inl h
  · exact .inr ⟨a, b, by simpa using h⟩
theorem str_ne {x y : Str} (h : x ≠ y) : decide (V.str x = V.str y) = false := decide_eq_false fun z => h (V.str.inj z)
/-- what stands while it is parsed -/
structure TI (K : PySem.W.Frag) (H : Hp) (Wa Pa : Addr) (rs : List Addr) (s : PSt) (H' : Hp) : Prop where
  sm : Same H H'
  hW : H Wa = none
  hP : H Pa = none
  hR : ∀ r ∈ rs, H r = none
  eW : H' Wa = some (.lst (rs.map V.ref))
  eP : ∃ xs, H' Pa = some (.lst xs) ∧ InL K H' xs s.parts
  eR : RL K H' rs s.wait
  nWP : Wa ≠ Pa
  nW : Wa ∉ rs
  nP : Pa ∉ rs
  nd : rs.Nodup
theorem RL.same {K : PySem.W.Frag} {H H' : Hp} (s : Same H H') : ∀ {w : List (List G)} {rs : List Addr}, RL K H rs w → RL K H' rs w
  | _, _, .nil => .nil
  | _, _, .cons e q t => .cons (s _ _ e) (q.same s) (RL.same s t)
theorem RL.mem {K : PySem.W.Frag} {H : Hp} {r : Addr} : ∀ {w : List (List G)} {rs : List Addr}, RL K H rs w → r ∈ rs → ∃ xs, H r = some (.lst xs)
  | _, _, .cons e q t, h => by
    rcases List.mem_cons.mp h with rfl | h
    · exact ⟨_, e⟩
    · exact RL.mem t h
theorem TI.same {K : PySem.W.Frag} {H H' H2 : Hp} {Wa Pa : Addr} {rs : List Addr} {s : PSt} (J : TI K H Wa Pa rs s H') (e : Same H' H2) : TI K H Wa Pa rs s H2 := by
  obtain ⟨xs, h1, h2⟩ := J.eP
  exact ⟨J.sm.trans e, J.hW, J.hP, J.hR, e _ _ J.eW, ⟨xs, e _ _ h1, h2.same e⟩, J.eR.same e, J.nWP, J.nW, J.nP, J.nd⟩
theorem tk_refl {H : Hp} : TupK H H := fun _ _ h _ => h
theorem TI.put {K : PySem.W.Frag} {H H3 : Hp} {Wa Pa : Addr} {rs : List Addr} {s : PSt} (J : TI K H Wa Pa rs s H3) {ys : List V} {gs : List G} (b : Bool) (hq : InL K H3 ys gs) (sh : ∀ g ∈ gs, shp g = true) (sw : ∀ ps ∈ s.wait, ∀ g ∈ ps, shp g = true) : TI K H Wa Pa rs ⟨s.wait, gs, b⟩ (upd H3 Pa (.lst ys)) := by
  obtain ⟨xs, h1, h2⟩ := J.eP
  have tk : TupK H3 (upd H3 Pa (.lst ys)) := TupK.off tk_refl h1
  refine ⟨same_J (H := H) J.hP _ _ _ J.sm h1, J.hW, J.hP, J.hR, ?_, ⟨ys, upd_same, inL_tk tk _ _ sh hq⟩, J.eR.mono tk (fun r hr o e => ?_) sw, J.nWP, J.nW, J.nP, J.nd⟩
  · rw [upd_ne J.nWP]
    exact J.eW
  · rw [upd_ne (show _ ≠ Pa from fun z => J.nP (by rw [← z]; exact hr))]
    exact e
theorem TI.open {K : PySem.W.Frag} {H H3 : Hp} {Wa Pa Pb : Addr} {rs : List Addr} {s : PSt} (J : TI K H Wa Pa rs s H3) (sp : ∀ g ∈ s.parts, shp g = true) (sw : ∀ ps ∈ s.wait, ∀ g ∈ ps, shp g = true) (hb : (upd H3 Wa (.lst (rs.map V.ref ++ [.ref Pa]))) Pb = none) (b : Bool) :
    TI K H Wa Pb (rs ++ [Pa]) ⟨s.wait ++ [s.parts], [], b⟩ (upd (upd H3 Wa (.lst (rs.map V.ref ++ [.ref Pa]))) Pb (.lst [])) := by
  obtain ⟨xs, h1, h2⟩ := J.eP
  have tk : TupK H3 (upd H3 Wa (.lst (rs.map V.ref ++ [.ref Pa]))) := TupK.off tk_refl J.eW
  have sN := Same.new (o := .lst []) (Same.refl (upd H3 Wa (.lst (rs.map V.ref ++ [.ref Pa])))) hb
  have sm1 : Same H (upd H3 Wa (.lst (rs.map V.ref ++ [.ref Pa]))) := same_J (H := H) J.hW _ _ _ J.sm J.eW
  have hbW : Pb ≠ Wa := fun z => by rw [z, upd_same] at hb; cases hb
  rw [upd_ne hbW] at hb
  have hbP : Pb ≠ Pa := fun z => by rw [z, h1] at hb; cases hb
  have e1 : (upd H3 Wa (.lst (rs.map V.ref ++ [.ref Pa]))) Pa = some (.lst xs) := by rw [upd_ne (Ne.symm J.nWP)]; exact h1
  have r1 : RL K (upd H3 Wa (.lst (rs.map V.ref ++ [.ref Pa]))) (rs ++ [Pa]) (s.wait ++ [s.parts]) := RL.snoc e1 (inL_tk tk _ _ sp h2) (J.eR.mono tk (fun r hr o e => by rw [upd_ne (show r ≠ Wa from fun z => J.nW (by rw [← z]; exact hr))]; exact e) sw)
  refine ⟨sm1.trans sN, J.hW, ?_, fun r hr => ?_, ?_, ⟨[], upd_same, .nil⟩, r1.same sN, Ne.symm hbW, ?_, ?_, ?_⟩
  · cases q : H Pb with
    | none => rfl
    | some o => rw [J.sm _ _ q] at hb; cases hb
  · rcases List.mem_append.mp hr with hr | hr
    · exact J.hR r hr
    · rw [List.mem_singleton.mp hr]
      exact J.hP
  · rw [upd_ne (Ne.symm hbW), upd_same]
    simp
  · intro hm
    rcases List.mem_append.mp hm with hm | hm
    · exact J.nW hm
    · exact J.nWP (List.mem_singleton.mp hm)
  · intro hm
    rcases List.mem_append.mp hm with hm | hm
    · obtain ⟨ys, e⟩ := J.eR.mem hm
      rw [e] at hb
      cases hb
    · exact hbP (List.mem_singleton.mp hm)
  · refine List.nodup_append.mpr ⟨J.nd, by simp, fun a ha b hb' => ?_⟩
    rw [List.mem_singleton.mp hb']
    exact fun z => J.nP (by rw [← z]; exact ha)
theorem TI.pop {K : PySem.W.Frag} {H H3 : Hp} {Wa Pa r : Addr} {rs : List Addr} {w : List (List G)} {ps made : List G} {xr : List V} {b : Bool} (J : TI K H Wa Pa (rs ++ [r]) ⟨w ++ [ps], made, b⟩ H3) (sw : ∀ ps ∈ w, ∀ g ∈ ps, shp g = true) (sp : ∀ g ∈ ps, shp g = true) (er : H3 r = some (.lst xr)) (qr : InL K H3 xr ps) (R : RL K H3 rs w) :
    TI K H Wa r rs ⟨w, ps, b⟩ (upd H3 Wa (.lst (rs.map V.ref))) := by
  have tk : TupK H3 (upd H3 Wa (.lst (rs.map V.ref))) := TupK.off tk_refl J.eW
  have nd := List.nodup_append.mp J.nd
  have rW : r ≠ Wa := fun z => J.nW (by rw [z]; simp)
  refine ⟨same_J (H := H) J.hW _ _ _ J.sm J.eW, J.hW, J.hR r (by simp), fun q hq => J.hR q (by simp [hq]), upd_same, ⟨xr, by rw [upd_ne rW]; exact er, inL_tk tk _ _ sp qr⟩, R.mono tk (fun q hq o e => by rw [upd_ne (fun z => J.nW (by rw [← z]; simp [hq]))]; exact e) sw, Ne.symm rW, fun hm => J.nW (by simp [hm]), fun hm => nd.2.2 r hm r (by simp) rfl, nd.1⟩
section
variable {P : Program} {w : World} {K : PySem.W.Frag} {mg : Str → Option Value} {base : Heap}
theorem scTreeOf : FnScope nTreeOf ["words"] (defScope sTreeOf) := ⟨rfl, rfl, rfl, by decide +kernel, rfl, by decide +kernel, by decide +kernel⟩
theorem ok_treeOf {f aM : Addr} {fd : FuncData} (F : Fun K "tree_of" "tree_of" sTreeOf f fd) (M : Mks K mg aM) (DG : Df P w K mg base C8.CX0 "is_gap" 2 ["thing"] (spGap K)) (T : Ct mg) (gE : mg "enumerate" = none) : FnOk P w K mg base C8.CX0 3 f fd ["words"] (spTreeOf K) := by
  refine F.ok scTreeOf (fun vs H Q E h => ?_) (fun cdv A outer s H vs Q E hr h => ?_)
  · obtain ⟨a, ws, rfl, _⟩ := h
    rfl
  · obtain ⟨a, ws, rfl, ea, hw, hl, k⟩ := h
    refine ⟨_, pss_cons (ps_set (i := 1) scTreeOf.nd rfl (Or.inl rfl) (pe_lst pa_nil))
      (pss_cons (ps_set (i := 2) scTreeOf.nd rfl (Or.inl rfl) (pe_lst pa_nil))
      (pss_cons (ps_set (i := 3) scTreeOf.nd rfl (Or.inl rfl) pe_bl)
      (pss_cons (ps_for PassesOwn.never rfl (pi_enum (by rfl) gE (pa_cons (pv 0) pa_nil)) (pg_tup rfl (pgs_cons (pg_name (i := 4) scTreeOf.nd rfl (Or.inl rfl)) (pgs_cons (pg_name (i := 5) scTreeOf.nd rfl (Or.inl rfl)) pgs_nil)))
        (pss_one (ps_if (PW.pt (pw_and (pt_val (pv 3)) (pw_and1 (pt_cmpR op_notIn_seq (pv 5) (pe_glob (v := .ref aM) (by rfl) M.g rfl) (by rfl)))))
          (pss_cons (ps_expr (pe_bm PySem.F.plainAttrs_list PySem.F.slot_list_append PySem.F.type_list_append mt_append (pv 2) (pa_cons (pe_ifExp (pt_val (pe_df DG hr pass0 (pa_cons (pv 5) pa_nil))) (pv 5) (pe_tup (pa_cons (pv 5) pa_nil))) pa_nil)))
            (pss_one (ps_set (i := 3) scTreeOf.nd rfl (Or.inl rfl) pe_bl)))
          (pss_one (ps_if (PW.pt (pw_and (pt_cmpR op_eq (pv 5) pe_str (nomark _)) (pw_and (pt_cmpR op_gt (pv 4) pe_int (nomark _)) (pw_and (pt_cmpR op_notIn_seq (pe_ix ix_list (pv 0) (pe_op op_sub (pv 4) pe_int) (fun _ _ => rfl)) (pe_glob (v := .ref aM) (by rfl) M.g rfl) (by rfl)) (pw_and1 (pt_not (pt_val (pe_df DG hr pass0 (pa_cons (pe_ix ix_list (pv 0) (pe_op op_sub (pv 4) pe_int) (fun _ _ => rfl)) pa_nil)))))))))
            (pss_cons (ps_expr (pe_bm PySem.F.plainAttrs_list PySem.F.slot_list_append PySem.F.type_list_append mt_append (pv 1) (pa_cons (pv 2) pa_nil)))
              (pss_cons (ps_set (i := 2) scTreeOf.nd rfl (Or.inl rfl) (pe_lst pa_nil))
              (pss_one (ps_set (i := 3) scTreeOf.nd rfl (Or.inl rfl) pe_bl))))
            (pss_one (ps_if (PW.pt (pw_and (pt_cmpR op_eq (pv 5) pe_str (nomark _)) (pw_and (pt_not (pt_val (pv 3))) (pw_and1 (pt_truth (pv 1) (by intro _; rfl))))))
              (pss_one (ps_set (i := 3) scTreeOf.nd rfl (Or.inl rfl) pe_bl))
              (pss_one (ps_if (PW.pt (pw_and (pt_cmpR op_eq (pv 5) pe_str (nomark _)) (pw_and (pt_not (pt_val (pv 3))) (pw_and1 (pt_truth (pv 1) (by intro _; rfl))))))
                (pss_cons (ps_set (i := 6) scTreeOf.nd rfl (Or.inl rfl) (pe_callTy call_tuple_of (by rfl) T.tuple boot_tuple (pa_cons (pv 2) pa_nil)))
                  (pss_cons (ps_set (i := 2) scTreeOf.nd rfl (Or.inl rfl) (pe_bm0 PySem.F.plainAttrs_list PySem.F.slot_list_pop PySem.F.type_list_pop mt_pop (pv 1)))
                  (pss_one (ps_expr (pe_bm PySem.F.plainAttrs_list PySem.F.slot_list_append PySem.F.type_list_append mt_append (pv 2) (pa_cons (pe_op op_catT (pe_bm0 PySem.F.plainAttrs_list PySem.F.slot_list_pop PySem.F.type_list_pop mt_pop (pv 2)) (pv 6)) pa_nil))))))
                (pss_one (ps_ret pe_non)))))))))))
      (pss_one (ps_ret (pe_ifExp (PW.pt (pw_and (pt_cmpR op_eq (pe_callB call_len_seq (by rfl) T.len (by decide +kernel) (pa_cons (pv 2) pa_nil)) pe_int (nomark _)) (pw_and (pt_not (pt_truth (pv 1) (by intro _; rfl))) (pw_and1 (pt_not (pt_val (pv 3))))))) (pe_ix ix_list (pv 2) pe_int (fun _ _ => rfl)) pe_non)))))), ?_⟩
    have hsz := sizeLine_eq
    refine ⟨(by show 0 ≤ sizeLine; exact Nat.zero_le _), fun Wa hW => ?_⟩
    have s0 := Same.new (o := .lst []) (Same.refl H) hW
    refine ⟨(by show 0 ≤ sizeLine; exact Nat.zero_le _), fun Pa hP => ?_⟩
    have s1 := Same.new (o := .lst []) s0 hP
    have hP0 : H Pa = none := Same.free s0 hP
    have nWP : Wa ≠ Pa := fun z => by rw [← z, upd_same] at hP; cases hP
    refine ⟨_, rfl, a, _, rfl, SqL.of (s1 _ _ ea), ?_⟩
    have I0 : TI K H Wa Pa [] ⟨[], [], true⟩ _ := ⟨s1, hW, hP0, by simp, by rw [upd_ne nWP, upd_same]; rfl, ⟨[], upd_same, .nil⟩, .nil, nWP, by simp, by simp, List.nodup_nil⟩
    refine for_it (walk_enum (xs := ws.map V.str)) (fun i σ H' => ∃ (s : PSt) (Pa : Addr) (rs : List Addr) (v4 v5 v6 : Option V), prun (ws.take i) = some (s, (ws.take i).getLast?) ∧ PIv i s ∧ σ = [some (.ref a), some (.ref Wa), some (.ref Pa), some (.bl s.want), v4, v5, v6] ∧ TI K H Wa Pa rs s H')
      ⟨_, Pa, [], none, none, none, rfl, PIv.init, rfl, I0⟩ (fun i σ H' _ ⟨_, _, _, _, _, _, _, _, _, J⟩ => SqL.of (J.sm _ _ ea)) ?_ ?_
    · rintro i v σ H1 H2 hi ⟨s, Pa, rs, v4, v5, v6, hs, iv, rfl, J⟩ ⟨Tp, x1, x2, rfl, hT, rfl, e1, e2⟩
      cases e1
      have hi' : i < ws.length := by simpa using hi
      obtain ⟨x, hx, rfl⟩ : ∃ x : Str, ws[i]? = some x ∧ x2 = .str x := by
        change (ws.map V.str)[i]? = some x2 at e2
        rw [List.getElem?_map, List.getElem?_eq_getElem hi'] at e2
        exact ⟨_, List.getElem?_eq_getElem hi', (Option.some.inj e2).symm⟩
      have et : ws.take (i + 1) = ws.take i ++ [x] := by rw [List.take_succ, hx]; rfl
      have hxm : x ∈ ws := List.mem_of_getElem? hx
      have hpr : prun (ws.take (i + 1)) = (pst (ws.take i).getLast? s x).map fun s' => (s', some x) := by
        rw [et, prun_snoc, hs]
        rfl
      have hlast : (ws.take (i + 1)).getLast? = some x := by rw [et]; simp
      have sT := Same.new (o := .tup [.int (i : Nat), .str x]) (Same.refl H1) hT
      have J1 := J.same sT
      have hno : pst (ws.take i).getLast? s x = none → ∀ H', Same H H' → Q .non H' := fun e H' sm => by
        have hn : treeP ws = none := treeP_none (i := i + 1) (by rw [hpr, e]; rfl)
        exact k .non H' sm (fun g z => by rw [hn] at z; cases z) fun _ => rfl
      have hyes : ∀ s', pst (ws.take i).getLast? s x = some s' → prun (ws.take (i + 1)) = some (s', (ws.take (i + 1)).getLast?) ∧ PIv (i + 1) s' := fun s' e => ⟨by rw [hpr, e, hlast]; rfl, iv.step e⟩
      have inmk : ∀ y : Str, V.bl (!inV (.str y) mk3) = V.bl (!isMk y) := fun y => congrArg (fun b => V.bl (!b)) (in_mk y)
      have hinv := (prun_inv (ws.take i) (fun w hw' => (hw w (List.mem_of_mem_take hw')).1) s _ hs).2
      refine ⟨Tp, _, rfl, SqT.of upd_same, rfl, _, _, rfl, _, _, rfl, rfl, ?_⟩
      obtain ⟨xs, eP, qP⟩ := J1.eP
      have lP : xs.length ≤ i := by rw [qP.len]; exact iv.p
      by_cases c1 : s.want = true ∧ isMk x = false
      · have hst : pst (ws.take i).getLast? s x = some ⟨s.wait, s.parts ++ [leafG x], false⟩ := if_pos c1
        obtain ⟨hrun, iv'⟩ := hyes _ hst
        refine ⟨_, rfl, s.want, rfl, iteT_ c1.1 ?_⟩
        refine ⟨_, rfl, aM, mk3, rfl, .inr (M.t _), rfl, flat_mk, !isMk x, inmk x, iteT_ (by rw [c1.2]; rfl) ?_⟩
        refine ⟨_, rfl, .inl ⟨rfl, _, SqL.of eP⟩, ?_⟩
        refine ⟨_, rfl, .str x, .s x, rfl, .s x, fun y ey => by cases ey; exact (hw x hxm).2, fun H3 s3 => ⟨gapB x, rfl, ?_⟩⟩
        have J3 := J1.same s3
        refine ite2 (fun h => ?_) (fun h => ?_)
        · refine ⟨_, rfl, Pa, xs, _, rfl, rfl, s3 _ _ eP, by omega, ?_⟩
          refine ⟨_, Pa, rs, some (.int (i : Nat)), some (.str x), v6, hrun, iv', rfl, J3.put false ?_ iv'.sp iv.sw⟩
          rw [leaf_gap h]
          exact (qP.same s3).app (.cons (.s x) .nil)
        · refine ⟨_, rfl, (by show 1 ≤ sizeLine; omega), fun tq htq => ?_⟩
          have s4 := Same.new (o := .tup [.str x]) (Same.refl H3) htq
          refine ⟨Pa, xs, _, rfl, rfl, s4 _ _ (s3 _ _ eP), by omega, ?_⟩
          refine ⟨_, Pa, rs, some (.int (i : Nat)), some (.str x), v6, hrun, iv', rfl, (J3.same s4).put false ?_ iv'.sp iv.sw⟩
          rw [show leafG x = .t [.s x] from if_neg h]
          exact ((qP.same s3).same s4).app (.cons (.t (SqT.of upd_same) (.cons (.s x) .nil)) .nil)
      · refine ⟨_, rfl, s.want, rfl, ite_sk (fun hw u => ⟨_, rfl, aM, mk3, rfl, .inr (M.t _), rfl, flat_mk, !isMk x, inmk x, iteF_ (fun z => c1 ⟨hw, by simpa using z⟩) u⟩) ?_⟩
        by_cases x1 : x = oP
        · subst x1
          have n3 : decide (V.str oP = V.str (Str.ofString ",")) = false := by decide +kernel
          have n4 : decide (V.str oP = V.str (Str.ofString ")")) = false := by decide +kernel
          refine ⟨_, rfl, rfl, _, rfl, iteT_ (by decide +kernel) ?_⟩
          refine ⟨_, rfl, _, _, rfl, rfl, _, rfl, ?_⟩
          have hp : ∀ H', Same H H' → ¬ (∃ y, (ws.take i).getLast? = some y ∧ isMk y = false ∧ gapB y = false) → Q .non H' := fun H' sm nc => hno (by
            unfold pst
            rw [if_neg c1, if_neg (fun z => nc z.2), if_neg (fun z => absurd z.1 (by decide +kernel)), if_neg (fun z => absurd z.1 (by decide +kernel))]) H' sm
          by_cases hi0 : i = 0
          · subst hi0
            refine iteF_ (by simp) (iteF_ Bool.false_ne_true ?_)
            refine ⟨_, rfl, rfl, _, rfl, iteF_ (by rw [n3]; exact Bool.false_ne_true) (iteF_ Bool.false_ne_true ?_)⟩
            refine ⟨_, rfl, rfl, _, rfl, iteF_ (by rw [n4]; exact Bool.false_ne_true) (iteF_ Bool.false_ne_true ?_)⟩
            exact hp _ J1.sm fun ⟨y, ey, _⟩ => by simp at ey
          · obtain ⟨y, ey'⟩ : ∃ y, ws[i - 1]? = some y := ⟨_, List.getElem?_eq_getElem (by omega)⟩
            have ey : (ws.take i).getLast? = some y := by
              rw [List.getLast?_eq_getElem?, List.length_take, Nat.min_eq_left (by omega), List.getElem?_take_of_lt (by omega)]
              exact ey'
            have hat : atI (ws.map V.str) ((i : Int) - 1) = some (.str y) := by
              rw [show (i : Int) - 1 = ((i - 1 : Nat) : Int) by omega]
              refine atI_nat ?_
              rw [List.getElem?_map, ey']
              rfl
            have hym : y ∈ ws := List.mem_of_getElem? ey'
            have sa : SqL K _ a (ws.map V.str) := SqL.of (J1.sm _ _ ea)
            refine iteT_ (by simpa using (by omega : 0 < i)) ?_
            refine ⟨_, rfl, _, rfl, _, _, rfl, rfl, a, _, _, _, rfl, rfl, sa, hat, aM, mk3, rfl, .inr (M.t _), rfl, flat_mk, !isMk y, inmk y, ?_⟩
            cases my : isMk y with
            | true =>
              refine iteF_ Bool.false_ne_true (iteF_ Bool.false_ne_true ?_)
              refine ⟨_, rfl, rfl, _, rfl, iteF_ (by rw [n3]; exact Bool.false_ne_true) (iteF_ Bool.false_ne_true ?_)⟩
              refine ⟨_, rfl, rfl, _, rfl, iteF_ (by rw [n4]; exact Bool.false_ne_true) (iteF_ Bool.false_ne_true ?_)⟩
              exact hp _ J1.sm fun ⟨z, ez, h1, _⟩ => by rw [ey] at ez; cases ez; rw [my] at h1; cases h1
            | false =>
              refine iteT_ rfl ?_
              refine ⟨_, rfl, _, rfl, _, _, rfl, rfl, a, _, _, _, rfl, rfl, sa, hat, .str y, .s y, rfl, .s y, fun z ez => by cases ez; exact (hw y hym).2, fun H3 s3 => ⟨gapB y, rfl, ?_⟩⟩
              have J3 := J1.same s3
              cases gy : gapB y with
              | true =>
                refine iteF_ Bool.false_ne_true ?_
                refine ⟨_, rfl, rfl, _, rfl, iteF_ (by rw [n3]; exact Bool.false_ne_true) (iteF_ Bool.false_ne_true ?_)⟩
                refine ⟨_, rfl, rfl, _, rfl, iteF_ (by rw [n4]; exact Bool.false_ne_true) (iteF_ Bool.false_ne_true ?_)⟩
                exact hp _ J3.sm fun ⟨z, ez, _, h2⟩ => by rw [ey] at ez; cases ez; rw [gy] at h2; cases h2
              | false =>
                refine iteT_ rfl ?_
                have c2 : oP = oP ∧ (∃ y, (ws.take i).getLast? = some y ∧ isMk y = false ∧ gapB y = false) := ⟨rfl, y, ey, my, gy⟩
                have hst : pst (ws.take i).getLast? s oP = some ⟨s.wait ++ [s.parts], [], true⟩ := by
                  unfold pst
                  rw [if_neg c1, if_pos c2]
                obtain ⟨hrun, iv'⟩ := hyes _ hst
                have lW : rs.length ≤ i := by rw [J3.eR.len]; exact iv.w
                refine ⟨_, rfl, .inl ⟨rfl, _, SqL.of J3.eW⟩, _, rfl, Wa, _, _, rfl, rfl, J3.eW, by rw [List.length_map]; omega, (by show 0 ≤ sizeLine; exact Nat.zero_le _), fun Pb hb => ?_⟩
                exact ⟨_, Pb, rs ++ [Pa], some (.int (i : Nat)), some (.str oP), v6, hrun, iv', rfl, J3.open iv.sp iv.sw hb true⟩
        · refine ⟨_, rfl, rfl, _, rfl, iteF_ (by rw [str_ne x1]; exact Bool.false_ne_true) (iteF_ Bool.false_ne_true ?_)⟩
          have c2 : ¬ (x = oP ∧ (∃ y, (ws.take i).getLast? = some y ∧ isMk y = false ∧ gapB y = false)) := fun z => x1 z.1
          by_cases x2 : x = cm
          · subst x2
            have n4 : decide (V.str cm = V.str (Str.ofString ")")) = false := by decide +kernel
            have c4 : ¬ (cm = cP ∧ s.want = false) := fun z => absurd z.1 (by decide +kernel)
            refine ⟨_, rfl, rfl, _, rfl, iteT_ (by decide +kernel) ?_⟩
            refine ⟨_, rfl, s.want, rfl, ?_⟩
            cases hw2 : s.want with
            | true =>
              refine iteF_ Bool.false_ne_true (iteF_ Bool.false_ne_true ?_)
              refine ⟨_, rfl, rfl, _, rfl, iteF_ (by rw [n4]; exact Bool.false_ne_true) (iteF_ Bool.false_ne_true ?_)⟩
              exact hno (by
                unfold pst
                rw [if_neg c1, if_neg c2, if_neg (fun z => by rw [hw2] at z; cases z.2.1), if_neg c4]) _ J1.sm
            | false =>
              refine iteT_ rfl ?_
              cases hrs : rs with
              | nil =>
                have hwt : s.wait = [] := List.eq_nil_of_length_eq_zero (by rw [← J1.eR.len, hrs]; rfl)
                refine ⟨_, rfl, false, .inl ⟨_, SqL.of J1.eW, by rw [hrs]; rfl⟩, iteF_ Bool.false_ne_true ?_⟩
                refine ⟨_, rfl, rfl, _, rfl, iteF_ (by rw [n4]; exact Bool.false_ne_true) (iteF_ Bool.false_ne_true ?_)⟩
                exact hno (by
                  unfold pst
                  rw [if_neg c1, if_neg c2, if_neg (fun z => z.2.2 hwt), if_neg c4]) _ J1.sm
              | cons r0 rs0 =>
                have hwt : s.wait ≠ [] := fun z => by have := J1.eR.len; rw [hrs, z] at this; cases this
                refine ⟨_, rfl, true, .inl ⟨_, SqL.of J1.eW, by rw [hrs]; rfl⟩, iteT_ rfl ?_⟩
                have hst : pst (ws.take i).getLast? s cm = some ⟨s.wait, s.parts, true⟩ := by
                  unfold pst
                  rw [if_neg c1, if_neg c2, if_pos ⟨rfl, hw2, hwt⟩]
                obtain ⟨hrun, iv'⟩ := hyes _ hst
                exact ⟨_, Pa, rs, some (.int (i : Nat)), some (.str cm), v6, hrun, iv', rfl, ⟨J1.sm, J1.hW, J1.hP, J1.hR, J1.eW, J1.eP, J1.eR, J1.nWP, J1.nW, J1.nP, J1.nd⟩⟩
          · refine ⟨_, rfl, rfl, _, rfl, iteF_ (by rw [str_ne x2]; exact Bool.false_ne_true) (iteF_ Bool.false_ne_true ?_)⟩
            have c3 : ¬ (x = cm ∧ s.want = false ∧ s.wait ≠ []) := fun z => x2 z.1
            by_cases x3 : x = cP
            · subst x3
              refine ⟨_, rfl, rfl, _, rfl, iteT_ (by decide +kernel) ?_⟩
              refine ⟨_, rfl, s.want, rfl, ?_⟩
              cases hw2 : s.want with
              | true =>
                refine iteF_ Bool.false_ne_true (iteF_ Bool.false_ne_true ?_)
                exact hno (by
                  unfold pst
                  rw [if_neg c1, if_neg c2, if_neg c3, if_neg (fun z => by rw [hw2] at z; cases z.2)]) _ J1.sm
              | false =>
                refine iteT_ rfl ?_
                have c4 : cP = cP ∧ s.want = false := ⟨rfl, hw2⟩
                rcases (eq_or_ne_nil s.wait) with hwt | ⟨w, ps, hwt⟩
                · have hrs : rs = [] := List.eq_nil_of_length_eq_zero (by rw [J1.eR.len, hwt]; rfl)
                  refine ⟨_, rfl, false, .inl ⟨_, SqL.of J1.eW, by rw [hrs]; rfl⟩, iteF_ Bool.false_ne_true ?_⟩
                  exact hno (by
                    unfold pst
                    rw [if_neg c1, if_neg c2, if_neg c3, if_pos c4, hwt]
                    rfl) _ J1.sm
                · obtain ⟨sw, sparts, swant⟩ := s
                  simp only at hwt hw2 eP qP lP
                  subst hwt
                  subst hw2
                  obtain ⟨ps0, q0h, hq0⟩ := hinv.wl ps (by simp)
                  subst hq0
                  have hs2 : pst (ws.take i).getLast? ⟨w ++ [ps0 ++ [.t [.s q0h]]], sparts, false⟩ cP = some ⟨w, ps0 ++ [.t ([.s q0h] ++ sparts)], false⟩ := by
                    unfold pst
                    rw [if_neg c1, if_neg c2, if_neg c3, if_pos c4]
                    simp [pclose]
                  obtain ⟨hrun, iv'⟩ := hyes _ hs2
                  generalize hqs : [G.s q0h] = qs at *
                  obtain ⟨rs', r, xr, rfl, er, qr, R⟩ := RL.last J1.eR
                  have swA : ∀ ps ∈ w, ∀ g ∈ ps, shp g = true := fun ps hp => iv.sw ps (by simp [hp])
                  have spA : ∀ g ∈ ps0 ++ [G.t qs], shp g = true := iv.sw _ (by simp)
                  refine ⟨_, rfl, true, .inl ⟨_, SqL.of J1.eW, by rw [List.map_append]; simp⟩, iteT_ rfl ?_⟩
                  refine ⟨_, rfl, Pa, xs, rfl, .inl ⟨SqL.of eP, fun tm htm => ?_⟩⟩
                  have s3 := Same.new (o := .tup xs) (Same.refl _) htm
                  have J3 := J1.same s3
                  refine ⟨_, rfl, .inl ⟨rfl, _, SqL.of J3.eW⟩, Wa, _, .ref r, rfl, rfl, J3.eW, by simp, ?_⟩
                  have J4 := J3.pop swA spA (s3 _ _ er) (qr.same s3) (R.same s3)
                  have ed : ((rs' ++ [r]).map V.ref).dropLast = rs'.map V.ref := by simp
                  rw [ed]
                  obtain ⟨xs4, eP4, qP4⟩ := J4.eP
                  obtain ⟨xs0, y, rfl, q0, qy⟩ := inL_last qP4
                  have J5 := J4.put (ys := xs0) (gs := ps0) false q0 (fun g hg => spA g (by simp [hg])) swA
                  have tk5 : TupK _ (upd (upd (upd (upd H1 Tp (.tup [.int (i : Nat), .str cP])) tm (.tup xs)) Wa (.lst (rs'.map V.ref))) r (.lst xs0)) := TupK.off tk_refl eP4
                  have tk4 : TupK (upd (upd H1 Tp (.tup [.int (i : Nat), .str cP])) tm (.tup xs)) _ := TupK.off (o := .lst (rs'.map V.ref)) tk_refl J3.eW
                  have shq := spA (.t qs) (by simp)
                  have qy5 := in_tk tk5 _ _ shq qy
                  have qm5 := inL_tk (tk4.trans tk5) _ _ iv.sp (qP.same s3)
                  have em5 := (tk4.trans tk5).sqt (K := K) (SqT.of (upd_same : (upd (upd H1 Tp (.tup [.int (i : Nat), .str cP])) tm (.tup xs)) tm = some (.tup xs)))
                  have hqs : qs ≠ [] ∧ ∃ y rs, qs = .s y :: rs := by
                    rcases shp_cases shq with ⟨z, e⟩ | ⟨z, rs, e, hr⟩
                    · cases e
                    · cases e
                      exact ⟨by simp, z, rs, rfl⟩
                  have hm1 := iv.m
                  have hm2 : qs.length ≤ i := by
                    have : wdw (w ++ [ps0 ++ [.t qs]]) = wdw w + (wds ps0 + qs.length) := by rw [wdw_app, wdw_one, wds_app, wds_one]; rfl
                    have h2 : wds sparts + wdw (w ++ [ps0 ++ [.t qs]]) ≤ i := hm1
                    omega
                  cases qy5 with
                  | @t tq ys _ hty qty =>
                    refine ⟨_, rfl, .inl ⟨rfl, _, SqL.of eP4⟩, _, rfl, .inl ⟨rfl, _, SqL.of eP4⟩, r, _, _, rfl, rfl, eP4, by simp; rfl, ?_⟩
                    rw [show (xs0 ++ [V.ref _]).dropLast = xs0 by simp]
                    have lys := qty.len
                    have q05 := inL_tk tk5 _ _ (fun g hg => spA g (by simp [hg])) q0
                    have l0 : xs0.length ≤ i := by
                      have := iv.pw (ps0 ++ [G.t qs]) (by simp)
                      rw [q0.len]
                      simp at this
                      omega
                    refine ⟨_, rfl, _, tm, _, xs, rfl, rfl, hty, em5, fun z => hqs.1 (List.eq_nil_of_length_eq_zero (by rw [← lys, z]; rfl)), by omega, fun z => ?_, fun hne p hp => ?_⟩
                    · have hs0' : sparts = [] := List.eq_nil_of_length_eq_zero (by rw [← qP.len, z]; rfl)
                      refine ⟨r, xs0, _, rfl, rfl, upd_same, by omega, ?_⟩
                      refine ⟨_, r, rs', some (.int (i : Nat)), some (.str cP), some (.ref tm), hrun, iv', rfl, J5.put false ?_ iv'.sp swA⟩
                      refine q05.app (.cons ?_ .nil)
                      rw [hs0', List.append_nil]
                      exact .t hty qty
                    · have s6 := Same.new (o := .tup (ys ++ xs)) (Same.refl _) hp
                      refine ⟨r, xs0, _, rfl, rfl, s6 _ _ upd_same, by omega, ?_⟩
                      refine ⟨_, r, rs', some (.int (i : Nat)), some (.str cP), some (.ref tm), hrun, iv', rfl, (J5.same s6).put false ?_ iv'.sp swA⟩
                      exact (q05.same s6).app (.cons (.t (SqT.of upd_same) ((qty.same s6).app (qm5.same s6))) .nil)
            · refine ⟨_, rfl, rfl, _, rfl, iteF_ (by rw [str_ne x3]; exact Bool.false_ne_true) (iteF_ Bool.false_ne_true ?_)⟩
              exact hno (by
                unfold pst
                rw [if_neg c1, if_neg c2, if_neg c3, if_neg (fun z => x3 z.1)]) _ J1.sm
    · rintro σ H1 ⟨s, Pa, rs, v4, v5, v6, hs, iv, rfl, J⟩
      rw [List.length_map, List.take_length] at hs
      obtain ⟨xs, eP, qP⟩ := J.eP
      have hlen := qP.len
      have hk : ∀ v, (∀ g, s = ⟨[], [g], false⟩ → In K H1 v g) → ((∀ g, s ≠ ⟨[], [g], false⟩) → v = .non) → Q v H1 := fun v h1 h2 => by
        refine k v H1 J.sm (fun g e => ?_) fun e => ?_
        · unfold treeP at e
          rw [hs] at e
          split at e
          · next g' pv' e' =>
            cases e
            cases e'
            exact h1 _ rfl
          · cases e
        · refine h2 fun g e' => ?_
          subst e'
          unfold treeP at e
          rw [hs] at e
          cases e
      refine ⟨_, rfl, Pa, _, rfl, .inl (SqL.of eP), rfl, _, rfl, ?_⟩
      obtain ⟨sw, sp, swant⟩ := s
      cases sp with
      | nil =>
        have : xs.length = 0 := hlen
        exact iteF_ (vint_ne (by omega)) (iteF_ Bool.false_ne_true (hk _ (fun g e => by cases e) fun _ => rfl))
      | cons g sp =>
      cases sp with
      | cons g2 sp =>
        have : xs.length = sp.length + 2 := hlen
        exact iteF_ (vint_ne (by omega)) (iteF_ Bool.false_ne_true (hk _ (fun g e => by cases e) fun _ => rfl))
      | nil =>
        obtain ⟨v, rfl, hv⟩ : ∃ v, xs = [v] ∧ In K H1 v g := by
          cases qP with
          | cons h t =>
            cases t
            exact ⟨_, rfl, h⟩
        refine iteT_ (by simp) ?_
        cases sw with
        | cons w0 sw =>
          have hrl := J.eR.len
          cases rs with
          | nil => cases hrl
          | cons r0 rs =>
          exact ⟨_, rfl, true, .inl ⟨_, SqL.of J.eW, rfl⟩, iteF_ Bool.false_ne_true (iteF_ Bool.false_ne_true (hk _ (fun g e => by cases e) fun _ => rfl))⟩
        | nil =>
          have hr0 : rs = [] := List.eq_nil_of_length_eq_zero (by rw [J.eR.len]; rfl)
          subst hr0
          refine ⟨_, rfl, false, .inl ⟨_, SqL.of J.eW, rfl⟩, iteT_ rfl ?_⟩
          refine ⟨_, rfl, swant, rfl, ?_⟩
          cases swant with
          | true => exact iteF_ Bool.false_ne_true (hk _ (fun g e => by cases e) fun _ => rfl)
          | false => exact iteT_ rfl ⟨_, rfl, Pa, _, 0, v, rfl, rfl, SqL.of eP, rfl, hk v (fun g' e => by cases e; exact hv) fun z => absurd rfl (z g)⟩
end
end K1
set_option Elab.async false
set_option linter.all false
set_option maxRecDepth 100000
set_option maxHeartbeats 2000000
namespace K1
open PySem PySem.Spec PyProof.Rows L2
open PySem.W (EachIs)
/-! ### sizes and signs of trees -/
theorem jn_mem : ∀ (ws : List Str) (w : Str), w ∈ ws → w.cps.toList.length ≤ (jn ws).length ∧ ∀ c ∈ w.cps.toList, c ∈ jn ws
  | [], w, h => by cases h
  | [a], w, h => by
    rw [List.mem_singleton.mp h]
    exact ⟨Nat.le_refl _, fun c hc => hc⟩
  | a :: b :: r, w, h => by
    rcases List.mem_cons.mp h with rfl | h
    · refine ⟨?_, fun c hc => List.mem_append_left _ hc⟩
      show _ ≤ (w.cps.toList ++ 44 :: jn (b :: r)).length
      rw [List.length_append]
      omega
    · obtain ⟨h1, h2⟩ := jn_mem (b :: r) w h
      refine ⟨?_, fun c hc => List.mem_append_right _ (List.mem_cons_of_mem _ (h2 c hc))⟩
      show _ ≤ (a.cps.toList ++ 44 :: jn (b :: r)).length
      rw [List.length_append, List.length_cons]
      omega
theorem jn_sum : ∀ ws : List Str, (ws.map fun w => w.cps.toList.length).sum ≤ (jn ws).length
  | [] => Nat.le_refl _
  | [a] => by simp [jn]
  | a :: b :: r => by
    have := jn_sum (b :: r)
    show _ ≤ (a.cps.toList ++ 44 :: jn (b :: r)).length
    rw [List.length_append, List.length_cons, List.map_cons, List.sum_cons]
    omega
theorem text_cons (w : Str) (p : G) (ps : List G) : (text (.t (.s w :: p :: ps))).cps.toList = w.cps.toList ++ 40 :: (jn ((p :: ps).map text) ++ [41]) := by
  rw [text_ts, if_neg (by simp), app_l, app_l, app_l, show (Str.ofString "(").cps.toList = [40] by decide +kernel, show (Str.ofString ")").cps.toList = [41] by decide +kernel, show (Txt.join (Str.ofString ",") ((p :: ps).map text)).cps.toList = jn ((p :: ps).map text) from jn_join _ (by simp)]
  simp
theorem tx_sub {x y : Str} (h : txB x = true) (hl : y.cps.toList.length ≤ x.cps.toList.length) (hs : ∀ c ∈ y.cps.toList, c ∈ x.cps.toList) : txB y = true := by
  obtain ⟨h1, h2⟩ := tx_ok h
  unfold txB
  rw [len_toList, len_toList] at hl
  rw [decide_eq_true (by omega), Bool.true_and]
  exact strOk_iff.mpr fun c hc => strOk_iff.mp h2 c (hs c hc)
/-- the parts of a tree's text -/
theorem tx_parts {w : Str} {ps : List G} (h : txB (text (.t (.s w :: ps))) = true) : txB w = true ∧ ∀ p ∈ ps, txB (text p) = true := by
  cases ps with
  | nil => rw [text_w] at h; exact ⟨h, by simp⟩
  | cons p ps =>
    have e := text_cons w p ps
    refine ⟨tx_sub h (by rw [e, List.length_append]; omega) (fun c hc => by rw [e]; exact List.mem_append_left _ hc), fun q hq => ?_⟩
    obtain ⟨h1, h2⟩ := jn_mem ((p :: ps).map text) (text q) (List.mem_map.mpr ⟨q, hq, rfl⟩)
    refine tx_sub h ?_ fun c hc => ?_
    · rw [e, List.length_append, List.length_cons, List.length_append]
      omega
    · rw [e]
      exact List.mem_append_right _ (List.mem_cons_of_mem _ (List.mem_append_left _ (h2 c hc)))
theorem wgT_len {g : G} (h : wgT g = true) : 1 ≤ (text g).cps.toList.length := by
  have key : ∀ x : Str, tokB x = true → 1 ≤ x.cps.toList.length := fun x hx => by
    cases e : x.cps.toList with
    | nil => exact absurd (ext_l (by rw [e]; rfl)) (tok_ne hx)
    | cons a r => simp
  cases g with
  | s x => rw [text_s]; exact key x (tok_of (.inr (by rw [wgT_s] at h; exact h)))
  | t ps =>
    cases ps with
    | nil => simp [wgT] at h
    | cons a ps =>
      cases a with
      | s w =>
        rw [wgT_t, Bool.and_eq_true] at h
        have := key w h.1
        cases ps with
        | nil => rw [text_w]; exact this
        | cons p ps => rw [text_cons, List.length_append]; omega
      | _ => simp [wgT] at h
  | _ => simp [wgT] at h
theorem wgT_sz (n : Nat) : ∀ g, dp g ≤ n → wgT g = true → sz g ≤ 2 * (text g).cps.toList.length := by
  induction n with
  | zero =>
    intro g h
    have := dp_pos g
    omega
  | succ n ih =>
    intro g hd hg
    have h1 := wgT_len hg
    cases g with
    | s x => simp only [sz]; omega
    | t ps =>
      cases ps with
      | nil => simp [wgT] at hg
      | cons a ps =>
        cases a with
        | s w =>
          have hw := wgT_t w ps
          rw [hg, eq_comm, Bool.and_eq_true, Bool.and_eq_true, List.all_eq_true] at hw
          cases ps with
          | nil =>
            rw [sz_t]
            simp only [List.map_cons, List.map_nil, List.sum_cons, List.sum_nil, sz]
            omega
          | cons p ps =>
            have h2 : ((p :: ps).map sz).sum ≤ ((p :: ps).map fun q => 2 * (text q).cps.toList.length).sum := sum_map_le fun q hq => ih q (dp_mem hd (List.mem_cons_of_mem _ hq)) (hw.2.2 q hq)
            have h3 := jn_sum ((p :: ps).map text)
            rw [List.map_map] at h3
            have h4 : ((p :: ps).map fun q => 2 * (text q).cps.toList.length).sum = 2 * ((p :: ps).map ((fun w => w.cps.toList.length) ∘ text)).sum := by
              rw [← sum_mul, List.map_map]
              rfl
            have h5 : 1 ≤ w.cps.toList.length := by
              cases e : w.cps.toList with
              | nil => exact absurd (ext_l (by rw [e]; rfl)) (tok_ne hw.1)
              | cons a r => simp
            rw [text_cons, List.length_append, List.length_cons, List.length_append, sz_t, List.map_cons, List.sum_cons]
            have h6 : sz (.s w) = 1 := by simp [sz]
            simp only [List.length_cons, List.length_nil]
            omega
        | _ => simp [wgT] at hg
    | _ => simp [wgT] at hg
theorem sz_s (x : Str) : sz (.s x) = 1 := by simp [sz]
theorem sz_pl (l : Nat) : ∀ g, wgT g = true → sz (plOf l g) ≤ 2 * sz g := by
  induction l with
  | zero => intro g _; have := sz_pos g; show sz (.o .none) ≤ _; simp only [sz]; omega
  | succ l ih =>
    intro g hg
    cases g with
    | t ts =>
      cases ts with
      | nil => simp [wgT] at hg
      | cons a ts =>
        cases a with
        | s w =>
          have hw := wgT_t w ts
          rw [hg, eq_comm, Bool.and_eq_true, Bool.and_eq_true, List.all_eq_true] at hw
          cases ha : ar w with
          | some n =>
            have e : plOf (l + 1) (.t (.s w :: ts)) = .t (.s w :: ts.map (plOf l)) := by conv => lhs; unfold plOf; rw [ha]
            rw [e, sz_t, sz_t, List.map_cons, List.sum_cons, List.map_cons, List.sum_cons, List.map_map]
            have h2 : (ts.map (sz ∘ plOf l)).sum ≤ (ts.map fun q => 2 * sz q).sum := sum_map_le fun q hq => ih q (hw.2.2 q hq)
            have h4 : (ts.map fun q => 2 * sz q).sum = 2 * (ts.map sz).sum := by
              rw [← sum_mul, List.map_map]
              rfl
            have := sz_pos (.s w)
            omega
          | none =>
            have e : plOf (l + 1) (.t (.s w :: ts)) = .t [.s w, titleIn ts] := by conv => lhs; unfold plOf; rw [ha]
            rw [e, sz_t, sz_t]
            have : sz (titleIn ts) = 1 := by unfold titleIn; split <;> simp [sz]
            simp only [List.map_cons, List.map_nil, List.sum_cons, List.sum_nil, this, sz_s]
            omega
        | _ => simp [wgT] at hg
    | _ => have h1 := sz_pos (plOf (l + 1) (.s Str.empty)); simp [wgT, plOf, sz] at hg ⊢
theorem gd_non : gd (.o .none) = true := by simp [gd]
theorem gd_title {ts : List G} (h : ∀ p ∈ ts, txB (text p) = true) : gd (titleIn ts) = true ∧ ∀ qs, titleIn ts ≠ .t qs := by
  unfold titleIn
  split
  · next y =>
    refine ⟨?_, fun qs z => by cases z⟩
    have := h (.t [.s y]) (by simp)
    rw [text_w] at this
    rw [gd_s, this]
  · exact ⟨gd_non, fun qs z => by cases z⟩
theorem gd_pl (l : Nat) : ∀ g, wgT g = true → txB (text g) = true → gd (plOf l g) = true := by
  induction l with
  | zero => intro g _ _; simp [plOf, gd]
  | succ l ih =>
    intro g hg ht
    cases g with
    | t ts =>
      cases ts with
      | nil => simp [wgT] at hg
      | cons a ts =>
        cases a with
        | s w =>
          have hw := wgT_t w ts
          rw [hg, eq_comm, Bool.and_eq_true, Bool.and_eq_true, List.all_eq_true] at hw
          obtain ⟨t1, t2⟩ := tx_parts ht
          cases ha : ar w with
          | some n =>
            have e : plOf (l + 1) (.t (.s w :: ts)) = .t (.s w :: ts.map (plOf l)) := by conv => lhs; unfold plOf; rw [ha]
            rw [e, gd_t, t1, ha]
            simp only [Bool.true_and, Option.isSome_some, Bool.true_or, Bool.and_true, List.all_eq_true]
            intro p hp
            obtain ⟨q, hq, rfl⟩ := List.mem_map.mp hp
            exact ih q (hw.2.2 q hq) (t2 q hq)
          | none =>
            have e : plOf (l + 1) (.t (.s w :: ts)) = .t [.s w, titleIn ts] := by conv => lhs; unfold plOf; rw [ha]
            obtain ⟨g1, g2⟩ := gd_title t2
            rw [e, gd_t, t1, ha]
            have : isT (titleIn ts) = false := by
              cases h : titleIn ts <;> first | rfl | exact absurd h (g2 _)
            simp [g1, this]
        | _ => simp [wgT] at hg
    | s x => simp [plOf, gd]
    | _ => simp [wgT] at hg
/-! ### title_in, plan_of -/
abbrev sTitleIn : Stmt := topS 28
def spTI (K : PySem.W.Frag) : Sp := fun vs H Q _ => ∃ (a : Addr) (xs : List V) (gs : List G), vs = [.ref a] ∧ SqL K H a xs ∧ InL K H xs gs ∧ (∀ g ∈ gs, wgT g = true) ∧ ∀ v, In K H v (titleIn gs) → Q v H
section
variable {P : Program} {w : World} {K : PySem.W.Frag} {mg : Str → Option Value} {base : Heap}
theorem scTitleIn : FnScope ["inner"] ["inner"] (defScope sTitleIn) := ⟨rfl, rfl, rfl, by decide +kernel, rfl, by decide +kernel, by decide +kernel⟩
theorem ok_titleIn {f : Addr} {fd : FuncData} (F : Fun K "title_in" "title_in" sTitleIn f fd) (T : Ct mg) : FnOk P w K mg base C8.CX0 1 f fd ["inner"] (spTI K) := by
  refine F.ok scTitleIn (fun vs H Q E h => ?_) (fun cdv A outer s H vs Q E hr h => ?_)
  · obtain ⟨a, xs, gs, rfl, _⟩ := h
    rfl
  · obtain ⟨a, xs, gs, rfl, hx, hg, hw, k⟩ := h
    refine ⟨_, pss_one (ps_ret (pe_ifExp (PW.pt (pw_and (pt_cmpR op_eq (pe_callB call_len_seq (by rfl) T.len PySem.boot_len (pa_cons (pv 0) pa_nil)) pe_int (nomark _))
      (pw_and (pt_val (pe_callB call_isi (by rfl) T.isi boot_isinstance (pa_cons (pe_ix ix_list (pv 0) pe_int (fun _ _ => rfl)) (pa_cons (pe_bltn (v := .ty "tuple") (by rfl) T.tuple boot_tuple rfl) pa_nil))))
      (pw_and1 (pt_cmpR op_eq (pe_callB call_len (by rfl) T.len PySem.boot_len (pa_cons (pe_ix ix_list (pv 0) pe_int (fun _ _ => rfl)) pa_nil)) pe_int (nomark _))))))
      (pe_ix ix_tup (pe_ix ix_list (pv 0) pe_int (fun _ _ => rfl)) pe_int (fun _ _ => rfl)) pe_non)), ?_⟩
    have hlen := hg.len
    refine ⟨_, rfl, a, _, rfl, .inl hx, rfl, _, rfl, ?_⟩
    have no : titleIn gs = .o .none → Q .non H := fun e => k .non (by rw [e]; exact .non)
    cases gs with
    | nil => exact iteF_ (vint_ne (by rw [hlen]; simp)) (iteF_ Bool.false_ne_true (no rfl))
    | cons g gs =>
    cases gs with
    | cons g2 gs =>
      refine iteF_ (vint_ne (by rw [hlen]; simp only [List.length_cons]; omega)) (iteF_ Bool.false_ne_true (no ?_))
      unfold titleIn
      split
      · next h => cases h
      · rfl
    | nil =>
      obtain ⟨v, rfl, hv⟩ : ∃ v, xs = [v] ∧ In K H v g := by
        cases hg with
        | cons h t => cases t; exact ⟨_, rfl, h⟩
      have at0 : atI [v] 0 = some v := rfl
      refine iteT_ (vint_eq (by simp)) ?_
      obtain ⟨d, t1, t2⟩ := isi_tup hv
      refine ⟨_, rfl, a, _, 0, _, rfl, rfl, hx, at0, _, _, _, _, _, rfl, .ty "tuple", t1, t2, _, rfl, ?_⟩
      cases hT : isT g with
      | false =>
        refine iteF_ Bool.false_ne_true (iteF_ Bool.false_ne_true (no ?_))
        cases g <;> first | rfl | cases hT
      | true =>
        have hwg := hw g (by simp)
        obtain ⟨y, ps, rfl⟩ : ∃ y ps, g = .t (.s y :: ps) := by
          cases g with
          | t ps =>
            cases ps with
            | nil => simp [wgT] at hwg
            | cons a ps => cases a <;> first | exact ⟨_, _, rfl⟩ | simp [wgT] at hwg
          | _ => cases hT
        refine iteT_ rfl ?_
        obtain ⟨b, ys, rfl, hy, hyg⟩ := hv.tup
        have hyl := hyg.len
        refine ⟨_, rfl, a, _, 0, _, rfl, rfl, hx, at0, .ref b, ys.length, rfl, .inr ⟨ys, hy, rfl⟩, rfl, _, rfl, ?_⟩
        cases ps with
        | nil =>
          obtain ⟨v0, e0, h0⟩ := hyg.get (i := 0) rfl
          refine iteT_ (vint_eq (by rw [hyl]; simp)) ?_
          exact ⟨_, rfl, a, _, 0, _, rfl, rfl, hx, at0, b, ys, 0, v0, rfl, rfl, hy, atI_nat (j := 0) e0, k v0 h0⟩
        | cons p ps =>
          exact iteF_ (vint_ne (by rw [hyl]; simp only [List.length_cons]; omega)) (no rfl)
end
end K1
set_option Elab.async false
set_option linter.all false
set_option maxRecDepth 100000
set_option maxHeartbeats 4000000
namespace PySem
namespace NtX
open PySem.W PySem.Calls PyProof.Rows PySem.HandSPX
/-! ### an own error over TurnError over ValueError: its __init__ says super().__init__('..') and stores one field -/
abbrev sNs : Stmt := L2.inClass (K1.topS 2) 0
/-- what the written part says of the class at C, of its base at CT, of its __init__ at fI, and of the cell at cc -/
structure NsTxt (prog : Program) (K : Frag) (C CT fI cc cda : Addr) : Prop where
  cls : ∃ nm q N bs bm sn sub ab col dd k0 k1 k2 k3 k5, K.lookup C = some (excClassObj nm q C N bs bm true sn sub ab col dd k0 k1 k2 k3 k5 "ValueError.__new__") ∧ refsVE bm = true ∧ alongIn K "__init__" bm = some (some (.builtin "ValueError.__init__"))
  sa : findIn K (.ref C) "__setattr__" = some (some (.builtin "object.__setattr__"))
  noN : findIn K (.ref C) "row" = some none
  iC : findIn K (.ref C) "__init__" = some (some (.ref fI))
  tC : typeIn K (.ref fI) = some (.type "function")
  kC : keepIn K (.ref C) = true
  exC : subIn K (.ref C) (.type "BaseException") = some true
  veC : subIn K (.ref C) (.type "ValueError") = some true
  mrC : mroIn K C (.ref C) = some true
  tyC : typeIn K (.ref C) = some (.type "type")
  opq : nsIn K cStatics "thirdparty.any" = some none
  sup : nsIn K mainGlobals "super" = some none
  cell : ∃ cl cld csl, K.lookup cc = some ⟨cl, cld, .cell (some (.ref C)), csl⟩
  code : ∃ ccl cdd vs ccs file tf, K.lookup cda = some ⟨ccl, cdd, .fields vs, ccs⟩ ∧ vs[2]? = some (.str file tf) ∧ ((prog.main.file : Str) == file) = true
  top : (prog.main.scope.names.lookup ("super" : Str)).isSome = false
  fn : ∃ (oc : Value) (od : Option Addr) (doc pm : Value) (an : Option Addr) (ct : Value) (osl : Array (Option Value)),
    K.lookup fI = some ⟨oc, od, .func (ksFn "__init__" "NoText.__init__" (L2.defArgs sNs) (L2.defBody sNs) (L2.defScope sNs) .none .none doc pm an (.ref cda) ct cc), osl⟩ ∧ codeIn K (.ref cda) "NoText.__init__" = true
structure NsEnd (h h' : Heap) (x C dx : Addr) (v : Value) : Prop where
  keep : ∀ b o, b ≠ x → h.get? b = some o → h'.get? b = some o
  obj : ∃ t1, h'.get? x = some { cls := .ref C, dict := some dx, data := .fields #[.ref t1, .none, .none, .none, .bool false, .none] }
  dbig : h.objs.size ≤ dx
  dne : dx ≠ x
  ns : h'.Ns1 dx (fun y => if y = "row" then some v else none)
section
variable {prog : Program} {w : World} {A : Around} {E : Value → Shared → Prop} {R : Result → Shared → Prop} {s : Shared} {K : Frag} {mg : Str → Option Value} {C CT fI cc cda : Addr}
theorem bw_call {u x t0 : Addr} {rest : List Value} {Q : Value → Shared → Prop} {nm q : Str} {N : Addr} {bs bm : List Value} {hdct : Bool} {sn : List Str} {sub : List Value} {ab : Bool} {col : Option Bool} {dd : Option Addr} {k0 k1 k2 k3 k5 : Option Value}
    (hC : s.heap.get? C = some (excClassObj nm q C N bs bm hdct sn sub ab col dd k0 k1 k2 k3 k5 "ValueError.__new__")) (hx : s.heap.get? x = some (excO C t0)) (hu : s.heap.get? u = some (kxs_mw "ValueError.__init__" x)) (hz : rest.length ≤ sizeLine)
    (hq : ∀ h' t1, (∀ b o, b ≠ x → s.heap.get? b = some o → h'.get? b = some o) → h'.get? x = some (excO C t1) → Q .none { s with heap := h' }) :
    wpAny (model prog w) A (call (.ref u) rest) Q E s := by
  obtain ⟨hh, g, d, tk, os⟩ := s
  refine wpAny_call (codeAny_of_tree ?_)
  show wpAny _ A.in1 (callAny (.ref u) ⟨rest, []⟩) _ _ _
  simp only [callAny]
  refine wpAny_bind (wpAny_load hu ?_)
  simp only [kxs_mw, show (Value.type "method-wrapper" == Value.type "method" || Value.type "method-wrapper" == Value.type "builtin_function_or_method" || Value.type "method-wrapper" == Value.type "method-wrapper") = true by decide, if_true]
  refine KFB.if_so (by decide) ?_
  refine wpAny_bind (check_bound_init PySem.F.excBase_ValueError.toExcCallFacts hC hx rfl ?_)
  refine wpAny_bind (wpAny_pure (wpAny_pure ?_))
  refine ⟨plainId_quiet PySem.F.excBase_ValueError.init.plain _, codeAny_builtin PySem.F.excBase_ValueError.initEntry ?_⟩
  exact exc_init_tree (cls := .ref C) (t0 := t0) (dv := none) (c2 := .none) (c3 := .none) (b4 := .bool false) hx hz (fun h' k e' _ => hq h' _ k e')
theorem ns_init (T : NsTxt prog K C CT fI cc cda) {x t0 : Addr} {v : Value} {mb : Str → Option Value} (X : K.In s.heap) (G : s.heap.Ns mainGlobals mg) (GB : s.heap.Ns builtinsNs mb) (hB : ∀ y : Str, y ≠ "__name__" → mb y = bootBuiltins y) (hlim : s.heap.NoLimit) (hx : s.heap.get? x = some (excO C t0)) (hnx : K.lookup x = none) (hroom : A.depth < recursionLimit)
    (hq : ∀ h' tk dx, NsEnd s.heap h' x C dx v → R (.ok (.ret .none)) { s with heap := h', toks := tk }) :
    codeAny (model prog w) A (.call (.ref fI) ⟨[.ref x, v], []⟩) R s := by
  obtain ⟨oc, od, doc, pm, an, ct, osl, ho, hcd⟩ := T.fn
  obtain ⟨nm, q, N, bs, bm, sn, sub, ab, col, dd, k0, k1, k2, k3, k5, hC, hbm, hal⟩ := T.cls
  obtain ⟨cl, cld, csl, hcell⟩ := T.cell
  obtain ⟨ccl, cdd, vs, ccs, file, tf, hcode, hvs, hfile⟩ := T.code
  have hcl : clsIn K C = some { name := nm, bases := bs, mro := .ref C :: bm, ns := N, qualname := q, hasDict := true, slotNames := sn, subclasses := sub, abstract := ab, collection := col, hasDel := false } := by unfold clsIn; rw [hC] <;> rfl
  refine ks_codeAny_call_defAt (body := L2.defBody sNs) (binds := [("self", .ref x), ("row", v)]) hroom (X _ _ ho) rfl hlim (codeRec_of X hcd) rfl (BindsTo.of_eq (by first | rfl | with_unfolding_all rfl)) (show ∀ y ∈ (L2.defScope sNs).names, y.2 ≠ .cell by decide +kernel) (by first | decide | (intro y hy; simp at hy; rcases hy with rfl | rfl <;> rfl)) (fun h₁ hns k => ?_)
  have X₁ : K.In h₁ := X.keeps k
  have hx₁ := k _ _ hx
  refine ks_wpAt_execs_cons (ks_wpAt_Expr_any (ks_wpAt_MethodCall ?_))
  have hk : (L2.defScope sNs).kind = .function := rfl
  have hsup : mg "super" = none := mg_none_of X G T.sup
  have G₁ := G.keeps k
  have GB₁ := GB.keeps k
  obtain ⟨oD, hD1, hD2⟩ : ∃ oD, h₁.get? C = some oD ∧ oD.data = .cls { name := nm, bases := bs, mro := .ref C :: bm, ns := N, qualname := q, hasDict := true, slotNames := sn, subclasses := sub, abstract := ab, collection := col, hasDel := false } := ⟨_, X₁ _ _ hC, rfl⟩
  refine ks_wpAt_super_base rfl rfl (by decide) rfl (X₁ _ _ ho) rfl rfl rfl (X₁ _ _ hcode) rfl hvs hfile T.top ?_
  refine ks_loadName_global hk rfl (loadGlobal_builtin G₁ hsup GB₁ ((hB _ (by decide +kernel)).trans (by first | boot_by_name | rfl | kernel_rfl)) ⟨rfl, ?_⟩)
  refine wpAny_loadName_free hk rfl rfl ⟨_, X₁ _ _ hcell, rfl⟩ ?_
  refine wpAny_loadName_local hk rfl hns rfl ?_
  refine ks_wpAny_isType_cls hD1 hD2 ⟨rfl, ?_⟩
  refine ks_wpAny_call_super hD1 hD2 hx₁ rfl (fun c e => by cases e) (looks_mroIn X₁ T.mrC) (fun h₂ e₂ k₂ => ?_)
  have X₂ : K.In h₂ := X₁.keeps k₂
  have hx₂ := k₂ _ _ hx₁
  have I₂ : InstAt h₂ x (excO C t0) C none := ⟨hx₂, rfl, rfl, trivial⟩
  refine kxs_getMethod kxs_ValueError e₂ (looks_opaque X₂ T.opq) (l₀ := .ref C :: bm) (l := bm) (fun A Q E s k q => wpAny_bind ((looks_clsIn X₂ hcl) A _ E s k (wpAny_pure q))) (by simp [List.dropWhile_cons]) X₂ hal (I₂.type.andThen (looks_subIn X₂ T.veC)) (ks_ne X₂ I₂ hcl) (by decide) ?_
  refine kxs_callWith (i := "ValueError.__init__") (x := x) rfl (evalArgs_plain ?_)
  refine Calls.spliced_cons ?_
  show wpAny _ _ (eval (.Constant (.str "the text can't be read at that row") 0 ⟨9, 25, 9, 61⟩) _) _ _ _
  refine Calls.Constant_str ?_
  show wpAny _ _ (spliced []) _ _ _
  refine Calls.spliced_nil ⟨Heap.get?_push_size _ rfl, ?_⟩
  have kp : ∀ b o, h₂.get? b = some o → (h₂.push (kxs_mw "ValueError.__init__" x)).get? b = some o := fun b o e => Heap.get?_push_of_some _ e
  refine bw_call (x := x) (t0 := t0) ((X₂.keeps kp) _ _ hC) (kp _ _ hx₂) (Heap.get?_push_size _ rfl) (by show 1 ≤ sizeLine; decide) (fun h₃ t1 k₃ hx₃ => ?_)
  have k13 : ∀ b o, b ≠ x → h₁.get? b = some o → h₃.get? b = some o := fun b o n e => k₃ b o n (kp b o (k₂ b o e))
  have X₃ : K.In h₃ := fun b o e => k₃ b o (fun z => by rw [z, hnx] at e; cases e) (kp b o (X₂ b o e))
  have nL : s.heap.objs.size ≠ x := Nat.ne_of_gt (Heap.lt_size hx)
  have hns₃ : h₃.Ns s.heap.objs.size (fun y => ([("self", .ref x), ("row", v)] : List (Str × Value)).reverse.lookup y) := by
    obtain ⟨o, es, ep, e, r⟩ := hns
    exact ⟨o, es, ep, k13 _ _ nL e, r⟩
  refine ks_wpAt_execs_cons (ks_wpAt_Assign_Attr ?_)
  have ld : ∀ {y : Str} {pos : Pos} {u : Value} {A : Around} {E : Value → Shared → Prop} {Q : Value → Shared → Prop} {g : Array GenState} {d : Drawn} {t : Nat} {os : OsState}, (callEnv (ksFn "__init__" "NoText.__init__" (L2.defArgs sNs) (L2.defBody sNs) (L2.defScope sNs) .none .none doc pm an (.ref cda) ct cc) s.heap.objs.size fI).kindOf y = some .local →
      ([("self", .ref x), ("row", v)] : List (Str × Value)).reverse.lookup y = some u → (y == ("__debug__" : Str)) = false → Q u ⟨h₃, g, d, t, os⟩ →
      wpAny (model prog w) A (eval (.Name y pos) (callEnv (ksFn "__init__" "NoText.__init__" (L2.defArgs sNs) (L2.defBody sNs) (L2.defScope sNs) .none .none doc pm an (.ref cda) ct cc) s.heap.objs.size fI)) Q E ⟨h₃, g, d, t, os⟩ :=
    fun h1 h2 h3 hQ => wpAny_Name (wpAny_loadName_local hk h1 hns₃ h2 hQ) h3
  refine wpAt_of_wpAny (ld rfl rfl (by decide) ?_)
  refine ld rfl rfl (by decide) ?_
  refine set_plain X₃ (ox := excO C t1) (od := none) ⟨hx₃, rfl, rfl, trivial⟩ T.sa ?_
  refine exc_osa X₃ hx₃ hcl (show refsVE (.ref C :: bm) = true from hbm) rfl T.noN (fun h₄ tk₄ dx k₄ dn dne hx₄ hn₄ => ?_)
  refine wpAt_of_wpAny (wpAny_execs_nil (hq h₄ tk₄ dx ⟨fun b o hb e => k₄ b o hb (k13 b o hb (k b o e)), ⟨t1, hx₄⟩, ?_, dne, hn₄⟩))
  have z0 : s.heap.objs.size < h₃.objs.size := hns₃.lt
  exact Nat.le_of_lt (Nat.lt_of_lt_of_le z0 dn)
/-- a made error with its name -/
structure NsMade (h h' : Heap) (e C d : Addr) (v : Value) : Prop where
  keep : ∀ b o, h.get? b = some o → h'.get? b = some o
  new : h.objs.size ≤ e
  obj : ∃ oe vs, h'.get? e = some oe ∧ oe.cls = .ref C ∧ oe.dict = some d ∧ oe.data = .fields vs ∧ vs[1]? = some .none
  dbig : h.objs.size ≤ d
  dne : d ≠ e
  ns : h'.Ns1 d (fun y => if y = "row" then some v else none)
theorem ns_made (T : NsTxt prog K C CT fI cc cda) {v : Value} {mb : Str → Option Value} (X : K.In s.heap) (G : s.heap.Ns mainGlobals mg) (GB : s.heap.Ns builtinsNs mb) (hB : ∀ y : Str, y ≠ "__name__" → mb y = bootBuiltins y) (hlim : s.heap.NoLimit) (hroom : A.depth + 1 < recursionLimit)
    (hq : ∀ h' tk e d, NsMade s.heap h' e C d v → R (.ok (.ret (.ref e))) { s with heap := h', toks := tk }) :
    codeAny (model prog w) A (.call (.ref C) ⟨[v], []⟩) R s := by
  obtain ⟨nm, q, N, bs, bm, sn, sub, ab, col, dd, k0, k1, k2, k3, k5, hC, hbm, hal⟩ := T.cls
  obtain ⟨hp, g, dr, tk, os⟩ := s
  have kk : ∀ b o, hp.get? b = some o → ((hp.push (kdv_tup [v])).push (excO C hp.objs.size)).get? b = some o := fun b o e => Heap.get?_push_of_some _ (Heap.get?_push_of_some _ e)
  have hgt : ((hp.push (kdv_tup [v])).push (excO C hp.objs.size)).get? (hp.objs.size + 1) = some (excO C hp.objs.size) := by heap_get
  have hnx : K.lookup (hp.objs.size + 1) = none := by
    cases e : K.lookup (hp.objs.size + 1) with
    | none => rfl
    | some o =>
      have z : hp.get? (hp.objs.size + 1) = some o := X _ _ e
      exact absurd (Nat.lt_of_succ_lt (Heap.lt_size z)) (Nat.lt_irrefl _)
  refine call_own PySem.F.excBase_ValueError (fun Y => refsVE_contains Y bm hbm) (X _ _ hC) (looks_findIn X T.iC) (fun self => bind_fn X self T.tC) (by show 1 ≤ sizeLine; decide) ?_
  refine ns_init (s := ⟨(hp.push (kdv_tup [v])).push (excO C hp.objs.size), g, dr, tk, os⟩) T (X.keeps kk) (G.keeps kk) (GB.keeps kk) hB (hlim.keeps kk) hgt hnx ?_ fun h' tk' dx ⟨k', ⟨t1, hx⟩, dn, dne, hns⟩ => ?_
  · show A.depth + 1 < recursionLimit
    exact hroom
  · have old : ∀ b o, hp.get? b = some o → h'.get? b = some o := fun b o e => k' b o (Nat.ne_of_lt (Nat.lt_succ_of_lt (Heap.lt_size e))) (kk b o e)
    have z : hp.objs.size + 1 + 1 ≤ dx := by
      first
        | (simpa only [Heap.size_push] using dn)
        | exact dn
        | (have q := dn; rw [Heap.size_push, Heap.size_push] at q; exact q)
    exact ⟨rfl, hq h' tk' (hp.objs.size + 1) dx ⟨old, Nat.le_succ _, ⟨_, _, hx, rfl, rfl, rfl, rfl⟩, Nat.le_trans (Nat.le_trans (Nat.le_succ _) (Nat.le_succ _)) z, dne, hns⟩⟩
end
end NtX
end PySem
namespace K1
open PySem PySem.Spec PyProof.Rows L2
theorem relO_nt {v : V} {v' : Value} (r : RelV v v') (f : Str) : RelO (List.lookup f [(("row" : Str), v)]) (if f = "row" then some v' else none) := by
  by_cases hw : f = "row"
  · subst hw
    rw [if_pos rfl, show List.lookup ("row" : Str) [(("row" : Str), v)] = some v by simp [List.lookup]]
    exact r
  · rw [if_neg hw, show List.lookup f [(("row" : Str), v)] = none by simp [List.lookup, show (f == ("row" : Str)) = false by simpa using hw]]
    trivial
section
variable {X : Cx} {C CT fI cc cda : Addr}
/-- NoText(e) -/
def tMkNt (C : Addr) (ta : TA) : L2.St → Hp → XK → Prop := fun σ H Q => ta σ H fun vs H1 => ∃ v, vs = [v] ∧ ∀ d, H1 d = none → Q (.ref C) (some d) (upd H1 d (.xd [(("row" : Str), v)]))
theorem pmk_nt {a : Expr} {ta : TA} {p pos : Pos} {k : Nat} (T : PySem.NtX.NsTxt X.prog X.K C CT fI cc cda) (gC : X.mg "NoText" = some (.ref C)) (hr : Room k X.A) (ha : PA X [a] ta) (hg : Gl X "NoText" := by rfl)
    (he : starEach (a :: []) X.env = (false, eval a X.env) :: starEach [] X.env := by rfl) (hpl : (backTo pos (starEach [] X.env)).any (·.1) = false := by rfl) :
    PMk X (.Call (.Name "NoText" p) [a] [] pos) (tMkNt C ta) := by
  intro pins s σ H Q I h
  refine wpAny_Call_Name_kw (ld_glob I hg gC ?_)
  refine PySem.W.callWith_K (h₀ := X.base) I.ok.mod.kin T.kC (thn (ha.run pos pins s σ H _ I h) fun us s1 hh => ?_) he hpl
  obtain ⟨vs, H1, I1, r1, v, ev, q1⟩ := hh
  subst ev
  refine ⟨I1.kIn, ?_⟩
  cases r1 with
  | cons rv rn =>
    rename_i v' us'
    cases rn
    show wpAny _ _ (call (.ref C) [v']) _ _ _
    have hlim := I1.nolimit
    obtain ⟨mb, hb1, hb2⟩ := I1.mod.blt
    have hgl := I1.mod.glob.keeps I1.bk
    have hbl := hb1.keeps I1.bk
    have hk := I1.kIn
    obtain ⟨hp, g, dr, tk, os⟩ := s1
    refine wpAny_call (PySem.NtX.ns_made T hk hgl hbl hb2 hlim (by have := hr.dp; omega) fun h' tk' e d M => ?_)
    show MkP X pins σ Q (.ref e) ⟨h', g, dr, tk', os⟩
    obtain ⟨oe, fv, hoe, hc, hd, hdat, h1⟩ := M.obj
    have hns := M.ns
    obtain ⟨G', g1, g2⟩ := restrict h' fun b => decide (b ≠ e)
    have gk : ∀ b, b ≠ e → G'.get? b = h'.get? b := fun b hb => g1 b (decide_eq_true hb)
    have ge : G'.get? e = none := g2 e (by simp)
    have old : ∀ b o, hp.get? b = some o → G'.get? b = some o := fun b o q => (gk b (Nat.ne_of_lt (Nat.lt_of_lt_of_le (Heap.lt_size q) M.new))).trans (M.keep b o q)
    have ob : ObjOk X.prog X.w (upd H1 d (.xd [(("row" : Str), v)])) G' d (.xd [(("row" : Str), v)]) :=
      ⟨_, hns.at (fun o q => (gk d M.dne).trans q), fun f => relO_nt rv f⟩
    have J : Inv X pins σ (upd H1 d (.xd [(("row" : Str), v)])) ⟨G', g, dr, tk', os⟩ := I1.laid (t' := tk') old M.dbig ob
    refine ⟨e, oe, fv, ⟨G', g, dr, tk', os⟩, _, .ref C, some d, rfl, J, fun b o q => ?_, ge, hoe, ⟨hc, hd⟩, hdat, h1, ?_, rfl, I1.bare, raises_own T.exC T.tyC, q1 d (I1.hok.fresh M.dbig)⟩
    · by_cases hb : b = e
      · have q' : G'.get? b = some o := q
        rw [hb, ge] at q'
        cases q'
      · exact (gk b hb).symm.trans q
    · rw [upd_ne (Ne.symm M.dne)]
      exact I1.hok.fresh M.new
end
end K1
set_option Elab.async false
set_option linter.all false
set_option maxRecDepth 100000
set_option maxHeartbeats 2000000
namespace L2
open PySem PySem.Spec PyProof.Rows
/-! ### x, *y = a tuple; l.count(x) of things; sorted(d) of a dict with any number of texts -/
theorem star_tuple {prog : Program} {w : World} {A : Around} {E : Value → Shared → Prop} {s : Shared} {t : Addr} {u : Value} {us : List Value} {Q : List Value → Shared → Prop} (hh : A.handled = none) (ht : IsTup s.heap t (u :: us).toArray) (hz : us.length + 1 ≤ 16384)
    (hQ : ∀ (h' : Heap) (tk : Nat), (∀ b o, s.heap.get? b = some o → h'.get? b = some o) → Q [u, .ref h'.objs.size] { s with heap := h'.push { cls := .type "list", data := .seq us.toArray }, toks := tk }) :
    wpAny (model prog w) A (unpackItems (.ref t) 2 (some 1)) Q E s := by
  have ne : t ≠ s.heap.objs.size := by obtain ⟨o, ho, _⟩ := ht; exact Nat.ne_of_lt (Heap.lt_size ho)
  have tl : t < s.heap.objs.size := by obtain ⟨o, ho, _⟩ := ht; exact Heap.lt_size ho
  unfold unpackItems
  refine wpAny_bind ?_
  unfold notIterableAtAll
  refine wpAny_bind (wpAny_specialOf (show s.TypeIs (.ref t) "tuple" from ht.typeIs) slot_tuple_iter.lookup (wpAny_pure ?_))
  simp only [Bool.false_eq_true, if_false]
  refine wpAny_bind (wpAny_holding (iter_tuple ht ?_))
  refine wpAny_bind (wpAny_holding (draw_tuple ne 1 0 _ _ ⟨_, Heap.get?_push_size _ rfl, rfl, rfl⟩ (ht.push _) (by simp) fun g it same => ?_))
  have tg : IsTup g t (u :: us).toArray := (ht.push _).extBut same.extBut ne
  obtain ⟨oi, hoi, hoi2⟩ := it
  have it' : IsTupIter g s.heap.objs.size t 1 := ⟨oi, hoi, hoi2⟩
  obtain ⟨ot, hot, hot2⟩ := tg
  have tg' : IsTup g t (u :: us).toArray := ⟨ot, hot, hot2⟩
  have e1 : List.take 1 (List.drop 0 (u :: us).toArray.toList) = [u] := by simp
  rw [e1, if_neg (show ¬ [u].length < 1 by simp)]
  refine wpAny_bind (wpAny_holding (PySem.W.kun_collect (s := { s with heap := g }) (T := "tuple_iterator") (items := (u :: us).toArray) (k := 1) (.inr (.inr (.inr rfl))) (Walks.tuple (A := A.in1) hh s.heap.objs.size t ne (u :: us).toArray)
    (fun j v st => st.1.typeIs) (by simp) ⟨it', tg'⟩ (Heap.lt_size hoi) (Heap.lt_size hot) (fun h' tk keep => ?_) (by rw [sizeLine_eq]; simp; omega)))
  have e2 : List.drop 1 (u :: us).toArray.toList = us := by simp
  rw [e2]
  show wpAny _ _ (if us.length < 2 - 1 - 1 then _ else _) _ _ _
  rw [if_neg (by simp)]
  have e3 : us.length - (2 - 1 - 1) = us.length := by simp
  show wpAny _ _ (newList (us.take (us.length - (2 - 1 - 1))) >>= fun z => pure ([u] ++ [z] ++ us.drop (us.length - (2 - 1 - 1)))) _ _ _
  rw [e3, List.take_length, List.drop_length]
  refine wpAny_bind (wpAny_newList ?_ (by rw [sizeLine_eq]; omega))
  refine wpAny_pure (hQ h' tk fun b o e => ?_)
  have nb : b ≠ s.heap.objs.size := Nat.ne_of_lt (Heap.lt_size e)
  exact keep b o nb (same.extBut b o nb (Heap.get?_push_of_some _ e))
/-- x, *y = a tuple -/
def gStar (K : PySem.W.Frag) (g1 g2 : TG) : TG := fun v σ H Q => ∃ a x xs, v = .ref a ∧ SqT K H a (x :: xs) ∧ xs.length ≤ 10000 ∧ ∀ D, H D = none → g1 x σ (upd H D (.lst xs)) fun σ' H' => g2 (.ref D) σ' H' Q
section
variable {X : Cx}
theorem pg_star {e1 e2 : Expr} {p pos : Pos} {k : Nat} {g1 g2 : TG} (hc : X.calm = true) (h1 : PG X e1 g1) (h2 : PG X e2 g2)
    (ha : assignEach [e1, .Starred e2 p] X.env = [(false, assign e1 X.env), (true, assign e2 X.env)] := by rfl) : PG X (.Tuple [e1, .Starred e2 p] k pos) (gStar X.K g1 g2) := by
  refine ⟨fun pins s σ H v u Q I r hw => ?_⟩
  obtain ⟨a, x, xs, rfl, hq, hz, q⟩ := hw
  cases r
  obtain ⟨its, rv, ht, _⟩ := I.tuple hq
  cases rv with
  | @cons _ u0 _ us r0 rt =>
  rw [assign_Tuple, ha]
  refine wpAny_bind (wpAny_standAt ?_)
  unfold unpack
  have ul : us.length = xs.length := (Vals.length rt).symm
  refine wpAny_bind (wpAny_holding (star_tuple (I.ok.hd hc) ht (by omega) fun h' tk keep => ?_))
  have I1 : Inv X pins σ H { s with heap := h', toks := tk } := I.kept keep
  have I2 : Inv X pins σ (upd H h'.objs.size (.lst xs)) { s with heap := h'.push { cls := .type "list", data := .seq us.toArray }, toks := tk } :=
    I1.laid (t' := tk) (fun b o e => Heap.get?_push_of_some _ e) (Nat.le_refl _) (show ObjOk X.prog X.w _ _ _ (.lst xs) from ⟨by rw [sizeLine_eq]; omega, us, 0, rt, Heap.get?_push_size _ rfl⟩)
  show wpAny _ _ (assignInOrder [assign e1 X.env, assign e2 X.env] [u0, .ref h'.objs.size]) _ _ _
  refine assignInOrder_cons (thn (h1.run pins _ σ _ x u0 _ I2 r0 (q _ (I1.hok.fresh (Nat.le_refl _)))) fun _ s1 ⟨σ1, H3, I3, q3⟩ => ?_)
  refine assignInOrder_cons (thn (h2.run pins s1 σ1 H3 (.ref h'.objs.size) _ _ I3 rfl q3) fun _ s2 ⟨σ2, H4, I4, q4⟩ => ?_)
  exact assignInOrder_nil ⟨σ2, H4, I4, q4⟩
end
end L2
namespace K1
open PySem PySem.Spec PyProof.Rows L2
open PySem.W (EachIs)
theorem in_tkg {K : PySem.W.Frag} {H H' : Hp} (s : TupK H H') (n : Nat) : ∀ (g : G) (v : V), dp g ≤ n → gd g = true → In K H v g → In K H' v g := by
  induction n with
  | zero =>
    intro g v h
    have := dp_pos g
    omega
  | succ n ih =>
    intro g v hd hs hi
    rcases gd_cases hs with ⟨x, rfl, _⟩ | rfl | ⟨x, ps, rfl, _, hp, _⟩
    · rw [hi.str]
      exact .s x
    · cases hi with
      | non => exact .non
    · obtain ⟨a, xs, rfl, h, r⟩ := hi.tup
      refine .t (s.sqt h) (inL_tk0 _ _ (fun g hg w hw => ?_) r)
      rcases List.mem_cons.mp hg with rfl | hg
      · rw [hw.str]
        exact .s x
      · exact ih g w (dp_mem hd (List.mem_cons_of_mem _ hg)) (hp g hg) hw
theorem each_appS {α β : Type} {R : α → β → Prop} {x : α} {y : β} (h : R x y) : ∀ {as : List α} {bs : List β}, EachIs R as bs → EachIs R (as ++ [x]) (bs ++ [y])
  | _, _, .nil => .cons h .nil
  | _, _, .cons q t => .cons q (each_appS h t)
section
variable {K : PySem.W.Frag} {a : Addr} {xs : List V} {gs : List G} {j : Nat} {te : TE} {σ : L2.St} {H1 : Hp} {D : Addr} {Qd : Hp → Prop}
/-- [e for x in xs], xs of things at a list -/
theorem lc_lst (R : Hp → V → G → Prop) (hD : H1 D = none) (hx : SqL K H1 a xs) (hg : InL K H1 xs gs) (hl : xs.length ≤ 100000)
    (mono : ∀ y g H H', g ∈ gs → R H y g → TupK H H' → R H' y g) (hw : ∀ x, wipe ((wipe σ [j]).set j (some x)) [j] = wipe σ [j])
    (turn : ∀ x g H, g ∈ gs → In K H x g → Same H1 H → ∀ Q : VK, (∀ y H', Same H H' → R H' y g → Q y H') → te ((wipe σ [j]).set j (some x)) H Q)
    (fin : ∀ H ys, Same H1 H → H D = some (.lst ys) → EachIs (R H) ys gs → Qd H) :
    ∃ W : Nat → Nat → Hp → Prop, (∃ m, W 0 m (upd H1 D (.lst []))) ∧ ∀ i m H, W i m H →
      ((Itl K a).stop i H ∧ Qd H) ∨ ((Itl K a).go i H ∧ ∃ Nx : Hp → Prop, (∀ H', Nx H' → ∃ m', m' < m ∧ W (i + 1) m' H') ∧ ∀ x H', (Itl K a).yld i H x H' → gName j x (wipe σ [j]) H' fun σ2 H2 => wipe σ2 [j] = wipe σ [j] ∧ tYes σ2 H2 fun b H3 =>
        if b = true then te σ2 H3 fun y H4 => ∃ acc, H4 D = some (.lst acc) ∧ acc.length < sizeLine ∧ Nx (upd H4 D (.lst (acc ++ [y]))) else Nx H3) := by
  refine lc_list (K := K) (a := a) (xs := xs) (fun i H => Same H1 H ∧ ∃ ys, H D = some (.lst ys) ∧ EachIs (fun y g => g ∈ gs ∧ R H y g) ys (gs.take i))
    ⟨Same.new (Same.refl H1) hD, [], upd_same, .nil⟩ (fun i H _ ⟨e, _⟩ => e.seq hx) ?_ ?_
  · rintro i x H hi ⟨e, ys, eD, hr⟩
    obtain ⟨g, hgi, hin⟩ := hg.at hi
    have hgm := List.mem_of_getElem? hgi
    have hlen := (List.getElem?_eq_some_iff.mp hi).1
    have hly := hr.length
    rw [List.length_take] at hly
    refine ⟨hw x, ?_⟩
    refine turn x g H hgm (hin.same e) e _ fun y H' e' r => ?_
    have eD' := e' _ _ eD
    refine ⟨ys, eD', by rw [sizeLine_eq]; omega, same_J (H := H) hD _ _ _ (e.trans e') eD', ys ++ [y], upd_same, ?_⟩
    rw [take_snoc hgi]
    have off : TupK H' (upd H' D (.lst (ys ++ [y]))) := (TupK.of (Ext.refl H')).off eD'
    exact each_appS ⟨hgm, mono _ _ _ _ hgm r off⟩ (hr.mono fun y g q => ⟨q.1, mono _ _ _ _ q.1 q.2 ((TupK.of (Ext.of e')).trans off)⟩)
  · rintro H ⟨e, ys, eD, hr⟩
    rw [hg.len, List.take_length] at hr
    exact fin H ys e eD (hr.mono fun y g q => q.2)
/-- [e for x in xs], xs of things at a tuple -/
theorem lc_tpl (R : Hp → V → G → Prop) (hD : H1 D = none) (hx : SqT K H1 a xs) (hg : InL K H1 xs gs) (hl : xs.length ≤ 100000)
    (mono : ∀ y g H H', g ∈ gs → R H y g → TupK H H' → R H' y g) (hw : ∀ x, wipe ((wipe σ [j]).set j (some x)) [j] = wipe σ [j])
    (turn : ∀ x g H, g ∈ gs → In K H x g → Same H1 H → ∀ Q : VK, (∀ y H', Same H H' → R H' y g → Q y H') → te ((wipe σ [j]).set j (some x)) H Q)
    (fin : ∀ H ys, Same H1 H → H D = some (.lst ys) → EachIs (R H) ys gs → Qd H) :
    ∃ W : Nat → Nat → Hp → Prop, (∃ m, W 0 m (upd H1 D (.lst []))) ∧ ∀ i m H, W i m H →
      ((Itt K a).stop i H ∧ Qd H) ∨ ((Itt K a).go i H ∧ ∃ Nx : Hp → Prop, (∀ H', Nx H' → ∃ m', m' < m ∧ W (i + 1) m' H') ∧ ∀ x H', (Itt K a).yld i H x H' → gName j x (wipe σ [j]) H' fun σ2 H2 => wipe σ2 [j] = wipe σ [j] ∧ tYes σ2 H2 fun b H3 =>
        if b = true then te σ2 H3 fun y H4 => ∃ acc, H4 D = some (.lst acc) ∧ acc.length < sizeLine ∧ Nx (upd H4 D (.lst (acc ++ [y]))) else Nx H3) := by
  refine lc_tup (K := K) (a := a) (xs := xs) (fun i H => Same H1 H ∧ ∃ ys, H D = some (.lst ys) ∧ EachIs (fun y g => g ∈ gs ∧ R H y g) ys (gs.take i))
    ⟨Same.new (Same.refl H1) hD, [], upd_same, .nil⟩ (fun i H _ ⟨e, _⟩ => sqt_same e hx) ?_ ?_
  · rintro i x H hi ⟨e, ys, eD, hr⟩
    obtain ⟨g, hgi, hin⟩ := hg.at hi
    have hgm := List.mem_of_getElem? hgi
    have hlen := (List.getElem?_eq_some_iff.mp hi).1
    have hly := hr.length
    rw [List.length_take] at hly
    refine ⟨hw x, ?_⟩
    refine turn x g H hgm (hin.same e) e _ fun y H' e' r => ?_
    have eD' := e' _ _ eD
    refine ⟨ys, eD', by rw [sizeLine_eq]; omega, same_J (H := H) hD _ _ _ (e.trans e') eD', ys ++ [y], upd_same, ?_⟩
    rw [take_snoc hgi]
    have off : TupK H' (upd H' D (.lst (ys ++ [y]))) := (TupK.of (Ext.refl H')).off eD'
    exact each_appS ⟨hgm, mono _ _ _ _ hgm r off⟩ (hr.mono fun y g q => ⟨q.1, mono _ _ _ _ q.1 q.2 ((TupK.of (Ext.of e')).trans off)⟩)
  · rintro H ⟨e, ys, eD, hr⟩
    rw [hg.len, List.take_length] at hr
    exact fin H ys e eD (hr.mono fun y g q => q.2)
end
abbrev sPlanOf : Stmt := topS 29
abbrev nPlanOf : List Str := ["tree", "levels", "word", "inner", "one"]
def trB (g : G) : Prop := g = .o .none ∨ (wgT g = true ∧ txB (text g) = true ∧ sz g ≤ 3000)
def spPo (K : PySem.W.Frag) (n : Nat) : Sp := fun vs H Q _ => ∃ (v : V) (g : G) (l : Nat), vs = [v, .int l] ∧ In K H v g ∧ trB g ∧ l ≤ n ∧ ∀ v' H', Same H H' → In K H' v' (plOf l g) → Q v' H'
theorem plOf_non (l : Nat) {g : G} (h : isT g = false) : plOf l g = .o .none := by
  cases l with
  | zero => rfl
  | succ l => cases g <;> first | rfl | cases h
section
variable {P : Program} {w : World} {K : PySem.W.Frag} {mg : Str → Option Value} {base : Heap}
theorem scPlanOf : FnScope nPlanOf ["tree", "levels"] (defScope sPlanOf) := ⟨rfl, rfl, rfl, by decide +kernel, rfl, by decide +kernel, by decide +kernel⟩
theorem ok_planOf {f aI : Addr} {es : Array DictEntry} {mI : Nat} {fd : FuncData} {n m : Nat} {spI : Sp} (F : Fun K "plan_of" "plan_of" sPlanOf f fd) (IH : Df P w K mg base C8.CX0 "plan_of" m ["tree", "levels"] spI)
    (hI : ∀ l, l + 1 ≤ n → ∀ vs H Q E, (∃ (v : V) (g : G), vs = [v, .int l] ∧ In K H v g ∧ trB g ∧ ∀ v' H', Same H H' → In K H' v' (plOf l g) → Q v' H') → spI vs H Q E)
    (DT : Df P w K mg base C8.CX0 "title_in" 1 ["inner"] (spTI K)) (I : Inr K w mg aI es mI) (T : Ct mg) (hm : 1 ≤ m) :
    FnOk P w K mg base C8.CX0 (m + 1) f fd ["tree", "levels"] (spPo K n) := by
  refine F.ok scPlanOf (fun vs H Q E h => ?_) (fun cdv A outer s H vs Q E hr h => ?_)
  · obtain ⟨v, g, l, rfl, _⟩ := h
    rfl
  · obtain ⟨v, g, l, rfl, hin, hT, hl, k⟩ := h
    have hr1 : Room 1 _ := hr.mono hm
    refine ⟨_, pss_cons (ps_if (PW.pt (pw_or (pt_cmpR op_eq (pv 1) pe_int (nomark _)) (pw_or1 (pt_not (pt_val (pe_callB call_isi (by rfl) T.isi boot_isinstance (pa_cons (pv 0) (pa_cons (pe_bltn (v := .ty "tuple") (by rfl) T.tuple boot_tuple rfl) pa_nil)))))))) (pss_one (ps_ret pe_non)) pss_nil)
      (pss_cons (ps_asg (pv 0) (pg_star rfl (pg_name (i := 2) scPlanOf.nd rfl (Or.inl rfl)) (pg_name (i := 3) scPlanOf.nd rfl (Or.inl rfl))))
      (pss_cons (ps_if (pt_cmpR (op_noI I) (pv 2) (pe_glob (v := .ref aI) (by rfl) I.g rfl) (by rfl)) (pss_one (ps_ret (pe_tup (pa_cons (pv 2) (pa_cons (pe_df DT hr1 pass0 (pa_cons (pv 3) pa_nil)) pa_nil))))) pss_nil)
      (pss_one (ps_ret (pe_tup (pa_cons (pv 2) (StX.pa_star (pe_lc (own := [("one", 4)]) (g := gName 4) (tt := tYes) rfl scPlanOf.nd (pi_list (pv 3)) (blkOk_by (N := nPlanOf) (sc := defScope sPlanOf) (by decide +kernel)) (fun _ _ _ _ _ => pg_name (i := 4) scPlanOf.nd rfl (Or.inl rfl)) (fun _ _ _ _ _ => pts_nil)
        (fun _ _ _ _ _ => pe_df IH hr pass0 (pa_cons (pv 4) (pa_cons (pe_op op_sub (pv 1) pe_int) pa_nil)) (Nat.le_refl _))) pa_nil))))))), ?_⟩
    refine ⟨_, rfl, rfl, _, rfl, ?_⟩
    cases l with
    | zero => exact iteT_ (by decide) (iteT_ rfl (k .non H (Same.refl H) .non))
    | succ l =>
    refine iteF_ (vint_ne (by omega)) ?_
    obtain ⟨d', t1', t2'⟩ := isi_tup hin
    refine ⟨_, rfl, _, _, _, _, _, rfl, .ty "tuple", t1', t2', _, rfl, ?_⟩
    cases hTu : isT g with
    | false => exact iteT_ rfl (k .non H (Same.refl H) (by rw [plOf_non _ hTu]; exact .non))
    | true =>
      refine iteF_ Bool.false_ne_true ?_
      obtain ⟨hg, htx, hz⟩ : wgT g = true ∧ txB (text g) = true ∧ sz g ≤ 3000 := by
        rcases hT with rfl | h
        · cases hTu
        · exact h
      obtain ⟨wd, ps, rfl⟩ : ∃ wd ps, g = .t (.s wd :: ps) := by
        cases g with
        | t ps =>
          cases ps with
          | nil => simp [wgT] at hg
          | cons a ps => cases a <;> first | exact ⟨_, _, rfl⟩ | simp [wgT] at hg
        | _ => cases hTu
      have hwg := wgT_t wd ps
      rw [hg, eq_comm, Bool.and_eq_true, Bool.and_eq_true, List.all_eq_true] at hwg
      obtain ⟨tx1, tx2⟩ := tx_parts htx
      obtain ⟨a, xs0, rfl, hx, hg0⟩ := hin.tup
      obtain ⟨x0, xs, rfl, h0, hgt⟩ : ∃ x0 xs, xs0 = x0 :: xs ∧ In K H x0 (.s wd) ∧ InL K H xs ps := by
        cases hg0 with
        | cons a b => exact ⟨_, _, rfl, a, b⟩
      obtain rfl := h0.str
      have hlen := hgt.len
      have hsl := sz_len (.s wd :: ps)
      rw [List.length_cons] at hsl
      refine ⟨_, rfl, a, _, xs, rfl, hx, by omega, fun pl hpl => ?_⟩
      have s1 := Same.new (o := .lst xs) (Same.refl H) hpl
      refine ⟨_, rfl, wd, rfl, rfl, _, rfl, ?_⟩
      have elst : SqL K (upd H pl (.lst xs)) pl xs := SqL.of upd_same
      cases ha : ar wd with
      | none =>
        have e : plOf (l + 1) (.t (.s wd :: ps)) = .t [.s wd, titleIn ps] := by conv => lhs; unfold plOf; rw [ha]
        refine iteT_ rfl ?_
        refine ⟨_, rfl, _, rfl, pl, xs, ps, rfl, elst, hgt.same s1, hwg.2.2, fun v1 h1 => ?_⟩
        refine ⟨(by show 2 ≤ sizeLine; decide), fun q hq => ?_⟩
        have s2 := Same.new (o := .tup [.str wd, v1]) (Same.refl (upd H pl (.lst xs))) hq
        refine k (.ref q) _ (s1.trans s2) ?_
        rw [e]
        exact .t (SqT.of upd_same) (.cons (.s wd) (.cons (h1.same s2) .nil))
      | some nn =>
        have e : plOf (l + 1) (.t (.s wd :: ps)) = .t (.s wd :: ps.map (plOf l)) := by conv => lhs; unfold plOf; rw [ha]
        refine iteF_ Bool.false_ne_true ?_
        refine ⟨_, rfl, _, rfl, pl, rfl, ⟨_, elst⟩, fun D hD => ?_⟩
        refine lc_lst (K := K) (gs := ps) (fun H y g => In K H y (plOf l g)) hD elst (hgt.same s1) (by omega) (fun y g H H' hm h tk => in_tkg tk _ _ _ (Nat.le_refl _) (gd_pl l g (hwg.2.2 g hm) (tx2 g hm)) h) (fun _ => rfl) ?_ ?_
        · intro x g H' hgm hxin e' Q' q'
          have l1 : (((l + 1 : Nat) : Int) - 1) = ((l : Nat) : Int) := by omega
          refine ⟨_, rfl, _, rfl, _, _, rfl, rfl, hI l (by omega) _ _ _ _ ⟨x, g, (by show [x, V.int (((l + 1 : Nat) : Int) - 1)] = _; rw [l1]), hxin, .inr ⟨hwg.2.2 g hgm, tx2 g hgm, by have := sz_mem (p := g) (List.mem_cons_of_mem (G.s wd) hgm); omega⟩, fun v' H'' s'' hv' => q' _ _ s'' hv'⟩⟩
        · intro H' ys e' eD hr
          have hys := each_in (F := plOf l) hr
          have hyl := hys.len
          rw [List.length_map] at hyl
          refine ⟨D, ys, rfl, .inr (SqL.of eD), ?_, fun q hq => ?_⟩
          · rw [sizeLine_eq]
            simp only [List.length_cons, List.length_append, List.length_nil]
            omega
          · have s2 := Same.new (o := .tup ([V.str wd] ++ (ys ++ []))) (Same.refl H') hq
            refine k (.ref q) _ ((s1.trans e').trans s2) ?_
            rw [e]
            refine .t (SqT.of upd_same) (.cons (.s wd) ?_)
            have e9 : ys ++ [] = ys := List.append_nil ys
            rw [e9]
            rw [e9] at s2
            exact hys.same s2
end
end K1
set_option Elab.async false
set_option linter.all false
set_option maxRecDepth 100000
set_option maxHeartbeats 2000000
namespace K1
open PySem PySem.Spec PyProof.Rows L2
open PySem.W (EachIs)
theorem wrun_tok {x : Str} (h : txB x = true) : (∀ w ∈ wrun x, Wd0 w ∧ w.length ≤ 1000) ∧ (wrun x).length ≤ 100000 := by
  obtain ⟨hc, hw⟩ := wrun_cat x
  obtain ⟨hl, _⟩ := tx_ok h
  have key : ∀ ws : List Str, (∀ w ∈ ws, Wd0 w) → (∀ w ∈ ws, w.cps.toList.length ≤ (catL ws).length) ∧ ws.length ≤ (catL ws).length := fun ws => by
    induction ws with
    | nil => intro _; simp [catL]
    | cons a r ih =>
      intro h
      obtain ⟨i1, i2⟩ := ih fun w hw => h w (List.mem_cons_of_mem _ hw)
      have e : (catL (a :: r)).length = a.cps.toList.length + (catL r).length := by simp [catL]
      have h1 : 1 ≤ a.cps.toList.length := by
        cases q : a.cps.toList with
        | nil =>
          exfalso
          have ea : a = Str.empty := ext_l (by rw [q]; rfl)
          rcases h a List.mem_cons_self with z | z
          · rw [ea] at z
            revert z
            decide +kernel
          · exact tok_ne z ea
        | cons c r => simp
      refine ⟨fun w hw => ?_, by rw [e, List.length_cons]; omega⟩
      rw [e]
      rcases List.mem_cons.mp hw with rfl | hw
      · omega
      · have := i1 w hw
        omega
  obtain ⟨k1, k2⟩ := key _ hw
  rw [hc, len_toList] at k1 k2
  exact ⟨fun w hm => ⟨hw w hm, by have := k1 w hm; rw [len_toList] at this; omega⟩, by omega⟩
noncomputable def rdG : G → Option G
  | .s x => rdP x
  | _ => none
abbrev sReadPlan : Stmt := topS 30
abbrev nReadPlan : List Str := ["text", "tree", "plan"]
noncomputable def spRead (K : PySem.W.Frag) (CT : Addr) : Sp := fun vs H Q E => ∃ (v : V) (g : G), vs = [v] ∧ In K H v g ∧ (∀ x, g = .s x → txB x = true) ∧ (∀ p, rdG g = some p → ∀ v' H', Same H H' → In K H' v' p → gd p = true → sz p ≤ 5000 → Q v' H') ∧
  (rdG g = none → ∀ H' dd, Same H H' → H' dd = none → E (.ref CT) (some dd) (upd H' dd (.xd [(("row" : Str), .int 0)])))
section
variable {P : Program} {w : World} {K : PySem.W.Frag} {mg : Str → Option Value} {base : Heap}
theorem scReadPlan : FnScope nReadPlan ["text"] (defScope sReadPlan) := ⟨rfl, rfl, rfl, by decide +kernel, rfl, by decide +kernel, by decide +kernel⟩
theorem ok_readPlan {f CT CE fI cc cda : Addr} {fd : FuncData} {m : Nat} (F : Fun K "read_plan" "read_plan" sReadPlan f fd) (DW : Df P w K mg base C8.CX0 "words_of" 1 ["text"] spWordsOf) (DTr : Df P w K mg base C8.CX0 "tree_of" 3 ["words"] (spTreeOf K))
    (DP : Df P w K mg base C8.CX0 "plan_of" m ["tree", "levels"] (spPo K 12)) (DI : Df P w K mg base C8.CX0 "is_plan" m ["thing"] (spG K isPl)) (T : Ct mg) (T2 : Cp mg) (N : PySem.NtX.NsTxt P K CT CE fI cc cda) (gN : mg "NoText" = some (.ref CT)) (hm : 3 ≤ m) :
    FnOk P w K mg base (L2.CX P w) (m + 1) f fd ["text"] (spRead K CT) := by
  refine F.okX scReadPlan (fun vs H Q E h => ?_) (fun cdv A outer s H vs Q E hr h => ?_)
  · obtain ⟨v, g, rfl, _⟩ := h
    rfl
  · obtain ⟨v, g, rfl, hin, hx, kY, kN⟩ := h
    obtain ⟨_, gw⟩ := T2.mw
    have hr1 : Room 1 _ := hr.mono (by omega)
    have hr3 : Room 3 _ := hr.mono hm
    refine ⟨_, C8.pss_cut (ps_set (i := 1) scReadPlan.nd rfl (Or.inl rfl) (pe_ifExp (pt_val (pe_callB call_isi (by rfl) T.isi boot_isinstance (pa_cons (pv 0) (pa_cons (pe_bltn (v := .ty "str") (by rfl) T.str boot_str rfl) pa_nil)))) (pe_df DTr hr3 pass0 (pa_cons (pe_df DW hr1 pass0 (pa_cons (pv 0) pa_nil)) pa_nil)) pe_non))
      (pss_cons (ps_set (i := 2) scReadPlan.nd rfl (Or.inl rfl) (pe_df DP hr pass0 (pa_cons (pv 1) (pa_cons (pe_glob (v := .int 12) (by rfl) gw ⟨_, rfl⟩) pa_nil)) (Nat.le_refl _)))
      (pss_cons (ps_if (pt_not (pt_val (pe_df DI hr pass0 (pa_cons (pv 2) pa_nil) (Nat.le_refl _)))) (pss_one (ps_raise rfl (takes_of rfl rfl rfl rfl) (pmk_nt N gN hr (pa_cons pe_int pa_nil)))) pss_nil)
      (pss_one (ps_ret (pv 2))))), ?_⟩
    refine ⟨fun σ' H' => ∃ (v1 : V) (g1 : G), σ' = [some v, some v1, none] ∧ Same H H' ∧ In K H' v1 g1 ∧ trB g1 ∧ gd (plOf 12 g1) = true ∧ sz (plOf 12 g1) ≤ 5000 ∧ (isPl (plOf 12 g1) = true → rdG g = some (plOf 12 g1)) ∧ (isPl (plOf 12 g1) = false → rdG g = none), ?_, ?_⟩
    · obtain ⟨d, t1, t2⟩ := isi_str hin
      have hnon : ∀ H', Same H H' → rdG g = none → ∃ (v1 : V) (g1 : G), [some v, some V.non, none] = [some v, some v1, none] ∧ Same H H' ∧ In K H' v1 g1 ∧ trB g1 ∧ gd (plOf 12 g1) = true ∧ sz (plOf 12 g1) ≤ 5000 ∧ (isPl (plOf 12 g1) = true → rdG g = some (plOf 12 g1)) ∧ (isPl (plOf 12 g1) = false → rdG g = none) := fun H' sm e =>
        ⟨.non, .o .none, rfl, sm, .non, .inl rfl, by simp [plOf, gd], by simp [plOf, sz], fun z => by rw [plOf_non 12 (g := .o .none) rfl] at z; simp [isPl, planB] at z, fun _ => e⟩
      refine ⟨_, rfl, _, _, _, _, _, rfl, .ty "str", t1, t2, _, rfl, ?_⟩
      cases g with
      | s x =>
        obtain rfl := hin.str
        have htx := hx x rfl
        obtain ⟨w1, w2⟩ := wrun_tok htx
        refine iteT_ rfl ?_
        refine ⟨_, rfl, x, rfl, by have := (tx_ok htx).1; omega, fun a H1 s1 _ ea => ?_⟩
        refine ⟨a, wrun x, rfl, ea, w1, w2, fun v1 H2 s2 hy hn => ?_⟩
        cases e : treeX x with
        | none =>
          have ev := hn e
          subst ev
          refine hnon H2 (s1.trans s2) ?_
          show rdP x = none
          unfold rdP
          rw [e]
          rfl
        | some g1 =>
          obtain ⟨h1, h2⟩ := treeX_iff.mp e
          have hsz : sz g1 ≤ 2000 := by
            have z1 := wgT_sz _ g1 (Nat.le_refl _) h1
            have z2 := (tx_ok htx).1
            rw [h2, len_toList] at z1
            omega
          have hrd : rdG (.s x) = if isPl (plOf 12 g1) = true then some (plOf 12 g1) else none := by
            show rdP x = _
            unfold rdP
            rw [e]
            rfl
          refine ⟨v1, g1, rfl, s1.trans s2, hy g1 e, .inr ⟨h1, by rw [h2]; exact htx, by omega⟩, gd_pl 12 g1 h1 (by rw [h2]; exact htx), by have := sz_pl 12 g1 h1; omega, fun z => by rw [hrd, if_pos z], fun z => by rw [hrd, if_neg (by rw [z]; exact Bool.false_ne_true)]⟩
      | t ps => exact iteF_ Bool.false_ne_true (hnon H (Same.refl H) rfl)
      | l ps => exact iteF_ Bool.false_ne_true (hnon H (Same.refl H) rfl)
      | o d => exact iteF_ Bool.false_ne_true (hnon H (Same.refl H) rfl)
    · rintro σ' H1 ⟨v1, g1, rfl, s1, h1, h2, h3, h4, h5, h6⟩
      refine ⟨_, rfl, v1, g1, 12, rfl, h1, h2, Nat.le_refl _, fun v2 H2 s2 hv2 => ?_⟩
      refine ⟨_, rfl, v2, _, rfl, hv2, h3, h4, fun H3 s3 => ⟨_, rfl, ?_⟩⟩
      have sA := (s1.trans s2).trans s3
      cases hp : isPl (plOf 12 g1) with
      | true => exact iteF_ Bool.false_ne_true ⟨_, rfl, kY _ (h5 hp) v2 H3 sA (hv2.same s3) h3 h4⟩
      | false => exact iteT_ rfl ⟨_, rfl, fun dd hdd => kN (h6 hp) H3 dd sA hdd⟩
end
end K1
set_option Elab.async false
set_option linter.all false
set_option maxRecDepth 100000
set_option maxHeartbeats 2000000
namespace K1
open PySem PySem.Spec PyProof.Rows L2
open PySem.W (EachIs)
abbrev sTextOf : Stmt := topS 26
abbrev nTextOf : List Str := ["plan", "word", "given", "inner", "one"]
def spTx (K : PySem.W.Frag) (n : Nat) : Sp := fun vs H Q _ => ∃ (v : V) (g : G) (l : Nat), vs = [v] ∧ In K H v g ∧ l ≤ n ∧ planB l g = true ∧ (text g).length ≤ 1000 ∧ ∀ H', Same H H' → Q (.str (text g)) H'
theorem text_part {w : Str} {ps : List G} (n : Nat) (h : (text (.t (.s w :: ps))).length ≤ n) : w.length ≤ n ∧ (∀ p ∈ ps, (text p).length ≤ n) ∧ (ps ≠ [] → w.length + (jn (ps.map text)).length + 2 ≤ n) := by
  cases ps with
  | nil => rw [text_w] at h; exact ⟨h, by simp, fun z => absurd rfl z⟩
  | cons p ps =>
    have e := congrArg List.length (text_cons w p ps)
    rw [len_toList, List.length_append, List.length_cons, List.length_append, len_toList] at e
    simp only [List.length_cons, List.length_nil] at e
    refine ⟨by omega, fun q hq => ?_, fun _ => by omega⟩
    have := (jn_mem ((p :: ps).map text) (text q) (List.mem_map.mpr ⟨q, hq, rfl⟩)).1
    rw [len_toList] at this
    omega
section
variable {P : Program} {w : World} {K : PySem.W.Frag} {mg : Str → Option Value} {base : Heap}
theorem scTextOf : FnScope nTextOf ["plan"] (defScope sTextOf) := ⟨rfl, rfl, rfl, by decide +kernel, rfl, by decide +kernel, by decide +kernel⟩
theorem ok_textOf {f aI : Addr} {es : Array DictEntry} {mI : Nat} {fd : FuncData} {n m : Nat} {spI : Sp} (F : Fun K "text_of_plan" "text_of_plan" sTextOf f fd) (IH : Df P w K mg base C8.CX0 "text_of_plan" m ["plan"] spI)
    (hI : ∀ l, l + 1 ≤ n → ∀ vs H Q E, (∃ (v : V) (g : G), vs = [v] ∧ In K H v g ∧ planB l g = true ∧ (text g).length ≤ 1000 ∧ ∀ H', Same H H' → Q (.str (text g)) H') → spI vs H Q E)
    (I : Inr K w mg aI es mI) (T : Ct mg) : FnOk P w K mg base C8.CX0 (m + 1) f fd ["plan"] (spTx K n) := by
  refine F.ok scTextOf (fun vs H Q E h => ?_) (fun cdv A outer s H vs Q E hr h => ?_)
  · obtain ⟨v, g, l, rfl, _⟩ := h
    rfl
  · obtain ⟨v, g, l, rfl, hin, hl, hp, hlen, k⟩ := h
    refine ⟨_, pss_cons (ps_asg (pv 0) (pg_star rfl (pg_name (i := 1) scTextOf.nd rfl (Or.inl rfl)) (pg_name (i := 2) scTextOf.nd rfl (Or.inl rfl))))
      (pss_cons (ps_if (pt_not (pt_truth (pv 2) (by intro _; rfl))) (pss_one (ps_ret (pv 1))) pss_nil)
      (C8.pss_cut (ps_set (i := 3) scTextOf.nd rfl (Or.inl rfl) (pe_join pe_str (pe_ifExp (pt_cmpR (op_inI I) (pv 1) (pe_glob (v := .ref aI) (by rfl) I.g rfl) (by rfl))
        (pe_lc (own := [("one", 4)]) (g := gName 4) (tt := tYes) rfl scTextOf.nd (pi_list (pv 2)) (blkOk_by (N := nTextOf) (sc := defScope sTextOf) (by decide +kernel)) (fun _ _ _ _ _ => pg_name (i := 4) scTextOf.nd rfl (Or.inl rfl)) (fun _ _ _ _ _ => pts_nil)
          (fun _ _ _ _ _ => pe_df IH hr pass0 (pa_cons (pv 4) pa_nil) (Nat.le_refl _))) (pv 2))))
      (pss_one (ps_ret (pe_joined (.cons (pe_fmt (pv 1)) (.cons pe_str (.cons (pe_fmt (pv 3)) (.cons pe_str .nil))))))))), ?_⟩
    obtain ⟨l', wd, ps, rfl, rfl, q⟩ := planB_cases hp
    obtain ⟨a, xs0, rfl, hx, hg0⟩ := hin.tup
    obtain ⟨x0, xs, rfl, h0, hgt⟩ : ∃ x0 xs, xs0 = x0 :: xs ∧ In K H x0 (.s wd) ∧ InL K H xs ps := by
      cases hg0 with
      | cons a b => exact ⟨_, _, rfl, a, b⟩
    obtain rfl := h0.str
    have hxl := hgt.len
    obtain ⟨tl1, tl2, tl3⟩ := text_part 1000 hlen
    have hps : ps.length ≤ 2 := by
      rcases q with ⟨nn, ha, hn, _⟩ | ⟨_, y, rfl, _⟩
      · have := (ar_tok ha).2.2.2
        omega
      · simp
    refine ⟨_, rfl, a, _, xs, rfl, hx, by omega, fun pl hpl => ?_⟩
    have s1 := Same.new (o := .lst xs) (Same.refl H) hpl
    have elst : SqL K (upd H pl (.lst xs)) pl xs := SqL.of upd_same
    refine ⟨_, rfl, !xs.isEmpty, .inl ⟨xs, elst, rfl⟩, ?_⟩
    cases hps2 : ps with
    | nil =>
      have hx0 : xs = [] := List.eq_nil_of_length_eq_zero (by rw [hxl, hps2]; rfl)
      refine iteT_ (by rw [hx0]; rfl) ⟨_, rfl, ?_⟩
      have q1 := k _ s1
      rw [hps2, text_w] at q1
      exact q1
    | cons p0 ps0 =>
      have hne : ps ≠ [] := by rw [hps2]; simp
      have hxe : (!(!xs.isEmpty)) = false := by
        cases xs with
        | nil => rw [hps2] at hxl; cases hxl
        | cons _ _ => rfl
      refine iteF_ (by rw [hxe]; exact Bool.false_ne_true) ?_
      have jl : (Txt.join (Str.ofString ",") (ps.map text)).length ≤ 1000 := by
        have := tl3 hne
        have e := jn_join (ps.map text) (by rw [hps2]; simp)
        rw [← len_toList, show (Txt.join (Str.ofString ",") (ps.map text)).cps.toList = jn (ps.map text) from e]
        omega
      have jsum : ((ps.map text).map (·.length)).sum + (ps.map text).length * (Str.ofString ",").length ≤ 4000 := by
        have h1 : ((ps.map text).map (·.length)).sum ≤ (ps.map text).length * 1000 := by
          have key : ∀ ws : List Str, (∀ w ∈ ws, w.length ≤ 1000) → (ws.map (·.length)).sum ≤ ws.length * 1000 := fun ws => by
            induction ws with
            | nil => intro _; simp
            | cons a r ih =>
              intro h
              have h1 := ih fun w hw => h w (List.mem_cons_of_mem _ hw)
              have h2 := h a List.mem_cons_self
              simp only [List.map_cons, List.sum_cons, List.length_cons]
              omega
          exact key _ fun w hw => by
            obtain ⟨p, hp', rfl⟩ := List.mem_map.mp hw
            exact tl2 p hp'
        rw [List.length_map] at h1 ⊢
        have e3 : (Str.ofString ",").length = 1 := by decide +kernel
        rw [e3]
        omega
      refine ⟨fun σ' H' => ∃ v4, σ' = [some (.ref a), some (.str wd), some (.ref pl), some (.str (Txt.join (Str.ofString ",") (ps.map text))), v4] ∧ Same H H', ?_, ?_⟩
      · refine ⟨⟨_, rfl⟩, _, rfl, wd, rfl, rfl, _, rfl, ?_⟩
        rcases q with ⟨nn, ha, hn, hpp⟩ | ⟨ha, y, hy, hlf⟩
        · refine iteT_ (by rw [ha]; rfl) ?_
          refine ⟨_, rfl, pl, rfl, ⟨_, elst⟩, fun D hD => ?_⟩
          refine lc_lst (K := K) (gs := ps) (fun H y g => y = .str (text g)) hD elst (hgt.same s1) (by omega) (fun y g H H' hm h tk => h) (fun _ => rfl) ?_ ?_
          · intro x g H' hgm hxin e' Q' q'
            exact ⟨_, rfl, hI l' (by omega) _ _ _ _ ⟨x, g, rfl, hxin, hpp g hgm, tl2 g hgm, fun H'' s'' => q' _ _ s'' rfl⟩⟩
          · intro H' ys e' eD hr
            have hys := each_val (f := fun g => V.str (text g)) hr
            have hys2 : ys = (ps.map text).map V.str := by rw [hys, List.map_map]; rfl
            subst hys2
            exact ⟨_, D, ps.map text, rfl, rfl, .inl (SqL.of eD), fit_line (m := 4000) jsum (by decide), none, rfl, s1.trans e'⟩
        · refine iteF_ (by rw [ha]; exact Bool.false_ne_true) ?_
          have hxs : xs = [.str y] := by
            rw [hy] at hgt
            cases hgt with
            | cons h1 h2 => cases h2; rw [h1.str]
          subst hy
          refine ⟨_, rfl, _, pl, [y], rfl, rfl, .inl (by rw [hxs] at elst ⊢; exact elst), ?_, none, ?_, s1⟩
          · have e1 : [G.s y].map text = [y] := by simp [text_s]
            rw [e1] at jsum
            exact fit_line (m := 4000) jsum (by decide)
          · have e1 : [G.s y].map text = [y] := by simp [text_s]
            rw [e1]
            rfl
      · rintro σ' H' ⟨v4, rfl, sm⟩
        have lp : (Str.ofString "(").length = 1 := by decide +kernel
        have rp : (Str.ofString ")").length = 1 := by decide +kernel
        refine ⟨_, rfl, .inl ⟨wd, rfl, fit_line tl1 (by decide), wd, rfl, ?_, _, rfl, ?_, _, rfl, .inl ⟨_, rfl, ?_, _, rfl, ?_, _, rfl, ?_, ?_⟩⟩⟩
        · rw [empty_app]
          exact fit_line tl1 (by decide)
        · rw [empty_app, app_len, lp]
          exact fit_line (m := 2000) (by omega) (by decide)
        · exact fit_line jl (by decide)
        · rw [empty_app, app_len, app_len, lp]
          exact fit_line (m := 3000) (by omega) (by decide)
        · rw [empty_app, app_len, app_len, app_len, lp, rp]
          exact fit_line (m := 3000) (by omega) (by decide)
        · have q1 := k H' sm
          rw [text_ts, if_neg hne] at q1
          rw [empty_app]
          exact q1
/-! ### plan_text, of a plan -/
abbrev sPlanText : Stmt := topS 27
def spPT (K : PySem.W.Frag) : Sp := fun vs H Q _ => ∃ (v : V) (g : G), vs = [v] ∧ In K H v g ∧ gd g = true ∧ sz g ≤ 5000 ∧ isPl g = true ∧ (text g).length ≤ 1000 ∧ ∀ H', Same H H' → Q (.str (text g)) H'
theorem scPlanText : FnScope ["plan"] ["plan"] (defScope sPlanText) := ⟨rfl, rfl, rfl, by decide +kernel, rfl, by decide +kernel, by decide +kernel⟩
theorem ok_planText {f : Addr} {fd : FuncData} {m : Nat} (F : Fun K "plan_text" "plan_text" sPlanText f fd) (DI : Df P w K mg base C8.CX0 "is_plan" m ["thing"] (spG K isPl)) (DX : Df P w K mg base C8.CX0 "text_of_plan" m ["plan"] (spTx K 12)) :
    FnOk P w K mg base C8.CX0 (m + 1) f fd ["plan"] (spPT K) := by
  refine F.ok scPlanText (fun vs H Q E h => ?_) (fun cdv A outer s H vs Q E hr h => ?_)
  · obtain ⟨v, g, rfl, _⟩ := h
    rfl
  · obtain ⟨v, g, rfl, hin, hf, hz, hp, hl, k⟩ := h
    refine ⟨_, pss_cons (ps_if (pt_not (pt_val (pe_df DI hr pass0 (pa_cons (pv 0) pa_nil) (Nat.le_refl _)))) (pss_one ps_never) pss_nil)
      (pss_one (ps_ret (pe_df DX hr pass0 (pa_cons (pv 0) pa_nil) (Nat.le_refl _)))), ?_⟩
    refine ⟨_, rfl, v, g, rfl, hin, hf, hz, fun H1 s1 => ⟨_, rfl, iteF_ (by rw [hp]; exact Bool.false_ne_true) ?_⟩⟩
    exact ⟨_, rfl, v, g, 12, rfl, hin.same s1, Nat.le_refl _, (Bool.and_eq_true_iff.mp hp).1, hl, fun H2 s2 => k H2 (s1.trans s2)⟩
end
end K1
set_option Elab.async false
set_option linter.all false
set_option maxRecDepth 100000
set_option maxHeartbeats 2000000
namespace K1
open PySem PySem.Spec PyProof.Rows L2
open PySem.W (EachIs)
theorem units10 {k : Nat} {A : Around} (r : Room k A) : A.units + 10 < cLine := by
  have := r.un
  omega
theorem units64 {k : Nat} {A : Around} (r : Room k A) : A.units + 64 < cLine := by
  have := units65 r
  omega
section
variable {X : Cx}
/-- xs != [] -/
def rNeNil (K : PySem.W.Frag) : R2 := fun x y H Q => ∃ (a b : Addr) (xs : List V), x = .ref a ∧ y = .ref b ∧ SqL K H a xs ∧ SqL K H b [] ∧ Q (.bl (!xs.isEmpty)) H
theorem op_neNil (hu : X.A.units + 10 < cLine) : OpR X (compareOp .NotEq) (rNeNil X.K) := by
  intro pins s σ H x y v u Q I rx ry h
  obtain ⟨a, b, xs, rfl, rfl, ha, hb, q⟩ := h
  cases rx
  cases ry
  obtain ⟨its, rv, hl, _⟩ := I.list ha
  obtain ⟨its2, rv2, hl2, _⟩ := I.list hb
  have e2 : its2 = [] := by cases rv2; rfl
  subst e2
  cases xs with
  | nil =>
    have e1 : its = [] := by cases rv; rfl
    subst e1
    exact SeqAt.RcNeAt.lists (e := fun _ => true) hl.isList hl2.isList rfl (by omega) (fun j h1 => absurd h1 (by simp)) X.prog X.w X.xe _ ⟨.bl _, H, I, rfl, q⟩
  | cons x xs =>
    refine SeqAt.RcNeAt.lists_lengths hl.isList hl2.isList ?_ (by omega) X.prog X.w X.xe _ ⟨.bl _, H, I, rfl, q⟩
    have := rv.length
    cases its with
    | nil => simp at this
    | cons i its => rfl
end
noncomputable instance instDecG : DecidableEq G := fun _ _ => Classical.propDecidable _
/-! ### things as data are equal just where they are the same -/
theorem eqvAll_toD {as : List G} : ∀ {bs : List G}, (∀ a ∈ as, ∀ b ∈ bs, PyData.eqv (toD a) (toD b) = decide (a = b)) → PyData.eqvAll (as.map toD) (bs.map toD) = decide (as = bs) := by
  induction as with
  | nil =>
    intro bs _
    cases bs <;> simp [PyData.eqvAll]
  | cons a as ih =>
    intro bs h
    cases bs with
    | nil => simp [PyData.eqvAll]
    | cons b bs =>
      rw [List.map_cons, List.map_cons, PyData.eqvAll, h a List.mem_cons_self b List.mem_cons_self, ih fun x hx y hy => h x (List.mem_cons_of_mem _ hx) y (List.mem_cons_of_mem _ hy)]
      by_cases e1 : a = b <;> by_cases e2 : as = bs <;> simp [e1, e2]
theorem layAll {n : Nat} : ∀ {gs : List G}, (∀ q ∈ gs, PyData.canLay0 (toD q) = true ∧ PyData.depth (toD q) ≤ n) → PyData.canLayAll0 (gs.map toD) = true ∧ PyData.depthAll (gs.map toD) ≤ n
  | [], _ => by simp [PyData.canLayAll0, PyData.depthAll]
  | g :: r, key => by
    obtain ⟨a, b⟩ := key g List.mem_cons_self
    obtain ⟨c, d⟩ := layAll fun q hq => key q (List.mem_cons_of_mem _ hq)
    rw [List.map_cons]
    refine ⟨?_, ?_⟩
    · simp only [PyData.canLayAll0, Bool.and_eq_true]
      exact ⟨a, c⟩
    · simp only [PyData.depthAll]
      exact Nat.max_le.mpr ⟨b, d⟩

/-! ### things as data -/
theorem gd_o {d : PyData} (h : gd (.o d) = true) : d = .none := by
  rcases gd_cases h with ⟨x, e, _⟩ | e | ⟨w, qs, e, _⟩
  · cases e
  · exact G.o.inj e
  · cases e
theorem gd_kids {g : G} {ps : List G} (h : gd g = true) (e : g = .t ps) : ∀ p ∈ ps, gd p = true := by
  rcases gd_cases h with ⟨x, rfl, _⟩ | rfl | ⟨w, qs, rfl, hw, hp, _⟩
  · cases e
  · cases e
  · cases e
    intro p hm
    rcases List.mem_cons.mp hm with rfl | hm
    · rw [gd_s]; exact hw
    · exact hp p hm
theorem toD_okg (n : Nat) : ∀ g, dp g ≤ n → gd g = true → PyData.canLay0 (toD g) = true ∧ PyData.depth (toD g) ≤ n := by
  induction n with
  | zero =>
    intro g h
    have := dp_pos g
    omega
  | succ n ih =>
    intro g hd hs
    cases g with
    | s x =>
      rw [toD]
      refine ⟨?_, by simp [PyData.depth]⟩
      have := (gd_str hs x rfl).2
      simpa [PyData.canLay0] using this
    | t gs =>
      rw [toD]
      have k2 := layAll (n := n) (gs := gs) fun q hq => ih q (dp_mem hd hq) (gd_kids hs rfl q hq)
      refine ⟨by simpa [PyData.canLay0] using k2.1, ?_⟩
      simp only [PyData.depth]
      omega
    | l ps => simp [gd] at hs
    | o d =>
      obtain rfl := gd_o hs
      exact ⟨by rw [toD]; decide +kernel, by rw [toD]; simp [PyData.depth]⟩
theorem toD_shg {g : G} (hd : dp g ≤ 60) (hs : gd g = true) : SeqAt.shaped (toD g) = true := by
  obtain ⟨a, b⟩ := toD_okg 60 g hd hs
  unfold SeqAt.shaped
  rw [a, Bool.true_and, decide_eq_true_iff]
  omega
theorem eqv_gd (n : Nat) : ∀ a b : G, dp a ≤ n → gd a = true → gd b = true → PyData.eqv (toD a) (toD b) = decide (a = b) := by
  induction n with
  | zero =>
    intro a b h
    have := dp_pos a
    omega
  | succ n ih =>
    intro a b hd' ha hb
    cases a with
    | s x =>
      cases b with
      | s y =>
        rw [toD, toD]
        show (x == y) = _
        by_cases e : x = y <;> simp [e]
      | t qs => simp [toD, PyData.eqv]
      | l qs => simp [gd] at hb
      | o d =>
        obtain rfl := gd_o hb
        simp [toD, PyData.eqv]
    | t ps =>
      cases b with
      | s y => simp [toD, PyData.eqv]
      | t qs =>
        rw [toD, toD]
        show PyData.eqvAll (List.map toD _) (List.map toD _) = _
        rw [eqvAll_toD fun p hp' q hq' => ih p q (dp_mem hd' hp') (gd_kids ha rfl p hp') (gd_kids hb rfl q hq')]
        by_cases e : ps = qs <;> simp [e]
      | l qs => simp [gd] at hb
      | o d =>
        obtain rfl := gd_o hb
        simp [toD, PyData.eqv]
    | l ps => simp [gd] at ha
    | o d =>
      obtain rfl := gd_o ha
      cases b with
      | s y => simp [toD, PyData.eqv]
      | t qs => simp [toD, PyData.eqv]
      | l qs => simp [gd] at hb
      | o d =>
        obtain rfl := gd_o hb
        rw [toD]
        simp [PyData.eqv]
theorem in_dpg {K : PySem.W.Frag} {H : Hp} (n : Nat) : ∀ (g : G) (v : V), dp g ≤ n → gd g = true → In K H v g → Dp K H v (toD g) := by
  induction n with
  | zero =>
    intro g v h
    have := dp_pos g
    omega
  | succ n ih =>
    intro g v hd hs hi
    cases g with
    | s x => rw [hi.str, toD]; exact .str x
    | t ps =>
      obtain ⟨a, xs, rfl, h, r⟩ := hi.tup
      rw [toD]
      exact .tup h (inL_dp _ _ (fun g hg w hw => ih g w (dp_mem hd hg) (gd_kids hs rfl g hg) hw) r)
    | l ps => simp [gd] at hs
    | o d =>
      obtain rfl := gd_o hs
      cases hi with
      | non => rw [toD]; exact .non
theorem ne_gog {K : PySem.W.Frag} {H : Hp} {v u : V} {a b : G} {Q : VK} (ha : In K H v a) (hb : In K H u b) (sa : gd a = true) (sb : gd b = true) (da : dp a ≤ 60) (db : dp b ≤ 60) (q : Q (.bl (!decide (a = b))) H) : rNeD K v u H Q :=
  ⟨toD a, toD b, in_dpg _ _ _ (Nat.le_refl _) sa ha, in_dpg _ _ _ (Nat.le_refl _) sb hb, toD_shg da sa, toD_shg db sb, by rw [eqv_gd _ _ _ (Nat.le_refl _) sa sb]; exact q⟩
/-- a plan of a fit text -/
theorem gd_plan (l : Nat) : ∀ p, planB l p = true → txB (text p) = true → gd p = true ∧ dp p ≤ l + 1 := by
  induction l with
  | zero => intro p h; simp [planB] at h
  | succ l ih =>
    intro p h ht
    obtain ⟨l', w, ps, e, rfl, q⟩ := planB_cases h
    cases e
    obtain ⟨t1, t2⟩ := tx_parts ht
    have dps : ∀ m, 1 ≤ m → (∀ p ∈ ps, dp p ≤ m) → dp (.t (.s w :: ps)) ≤ m + 1 := fun m hm hp => by
      rw [dp_t]
      have := (maxl_le (ns := (G.s w :: ps).map dp) (m := m)).mpr fun n hn => by
        obtain ⟨p, hp', rfl⟩ := List.mem_map.mp hn
        rcases List.mem_cons.mp hp' with rfl | hp'
        · simpa [dp] using hm
        · exact hp p hp'
      omega
    rcases q with ⟨n, ha, hn, hp⟩ | ⟨ha, y, rfl, hl⟩
    · refine ⟨?_, dps (l + 1) (by omega) fun p hm => (ih p (hp p hm) (t2 p hm)).2⟩
      rw [gd_t, t1, ha]
      simp only [Bool.true_and, Option.isSome_some, Bool.true_or, Bool.and_true, List.all_eq_true]
      exact fun p hm => (ih p (hp p hm) (t2 p hm)).1
    · refine ⟨?_, dps (l + 1) (by omega) fun p hm => by rw [List.mem_singleton.mp hm]; simp [dp]⟩
      have := t2 (.s y) (by simp)
      rw [text_s] at this
      rw [gd_t, t1, ha]
      simp [gd_s, this, isT]
theorem planB_mono {l : Nat} : ∀ {p : G}, planB l p = true → planB (l + 1) p = true := by
  induction l with
  | zero => intro p h; simp [planB] at h
  | succ l ih =>
    intro p h
    obtain ⟨l', w, ps, e, rfl, q⟩ := planB_cases h
    cases e
    unfold planB
    rcases q with ⟨n, ha, hn, hp⟩ | ⟨ha, y, rfl, hl⟩
    · rw [ha]
      simp only [Bool.and_eq_true, decide_eq_true_iff, List.all_eq_true]
      exact ⟨hn, fun p hm => ih (hp p hm)⟩
    · rw [ha]
      exact hl
theorem planB_le {l m : Nat} (h : l ≤ m) {p : G} (hp : planB l p = true) : planB m p = true := by
  induction h with
  | refl => exact hp
  | step _ ih => exact planB_mono ih
/-! ### drawn -/
theorem Gen.tkp {d g c : Addr} {t : Nat} {H H' : Hp} (G : Gen d g c t H) (k : Kp d g H H') : TupK H H' := fun b o e h => by
  obtain ⟨_, _, _, _, _, e1, e2, _⟩ := G
  refine k b o (fun z => ?_) (fun z => ?_) e
  · rw [z, e1] at e
    cases e
    rcases h with ⟨_, z⟩ | ⟨_, _, z⟩ <;> cases z
  · rw [z, e2] at e
    cases e
    rcases h with ⟨_, z⟩ | ⟨_, _, z⟩ <;> cases z
/-- a sign of a text picked -/
def spPickS : Sp := fun vs H Q _ => ∃ (d g c : Addr) (t : Nat) (x : Str), vs = [.ref d, .str x] ∧ Gen d g c t H ∧ t < 2 ^ 30 ∧ 0 < x.length ∧ x.length ≤ 10000 ∧
  ∀ (z : Nat) (H' : Hp), z ∈ x.cps.toList → Gen d g c (t + 1) H' → Kp d g H H' → Q (.str (ch z)) H'
section
variable {P : Program} {w : World} {K : PySem.W.Frag} {mg : Str → Option Value} {base : Heap}
theorem ok_pickS {f : Addr} {fd : FuncData} (F : Fun K "_law_pick" "_law_pick" sPick' f fd) (DT : Df P w K mg base CX0 "_law_take" 2 ["_law_state", "_law_size"] spTake) (T : Bt mg) : FnOk P w K mg base CX0 3 f fd ["_law_state", "_law_some"] spPickS := by
  refine F.ok scPick (fun vs H Q E h => ?_) (fun cdv A outer s H vs Q E hr h => ?_)
  · obtain ⟨d, g, c, t, x, rfl, _⟩ := h
    rfl
  · obtain ⟨d, g, c, t, x, rfl, G, ht, hp, hl, k⟩ := h
    refine ⟨_, pss_one (ps_ret (pe_ix ix_str (pv 1) (pe_df DT hr pass0 (pa_cons (pv 0) (pa_cons (pe_callB call_len (by rfl) T.len PySem.boot_len (pa_cons (pv 1) pa_nil)) pa_nil))) (fun _ _ => rfl))), ?_⟩
    refine ⟨_, rfl, _, rfl, _, rfl, .str x, x.length, rfl, ⟨by rw [sizeLine_eq]; omega, rfl⟩, d, g, c, t, (x.length : Int), rfl, G, ht, by omega, by omega, fun v H' v0 v1 G' k' => ?_⟩
    obtain ⟨z, hz, hm⟩ := at_code (w := x) v0 v1
    exact ⟨x, v, z, rfl, rfl, by rw [sizeLine_eq]; omega, hz, k z H' hm G' k'⟩
end
end K1
set_option Elab.async false
set_option linter.all false
set_option maxRecDepth 100000
set_option maxHeartbeats 2000000
namespace K1
open PySem PySem.Spec PyProof.Rows L2
open PySem.W (EachIs)
abbrev sTitles : Stmt := topS 37
def two (w o : Str) : Str := w ++ Str.ofString "." ++ o
/-- a title as drawn -/
structure Ttl (x : Str) : Prop where
  ti : titleB x = true
  len : x.length ≤ 17
  ok : PyData.strOk x = true
theorem ttl_name {x : Str} (h : nameB x = true) : Ttl x := ⟨title_name h, by have := name_len h; omega, name_strOk h⟩
theorem ttl_two {w o : Str} (h : nameB w = true) (ho : nameB o = true) : Ttl (two w o) := by
  refine ⟨title_two h ho, ?_, ?_⟩
  · unfold two
    rw [app_len, app_len]
    have := name_len h
    have := name_len ho
    have : (Str.ofString ".").length = 1 := by decide +kernel
    omega
  · refine strOk_iff.mpr fun c hc => ?_
    unfold two at hc
    rw [app_l, app_l] at hc
    rcases List.mem_append.mp hc with hc | hc
    · rcases List.mem_append.mp hc with hc | hc
      · exact strOk_iff.mp (name_strOk h) c hc
      · have : (Str.ofString ".").cps.toList = [46] := by decide +kernel
        rw [this] at hc
        rw [List.mem_singleton.mp hc]
        decide
    · exact strOk_iff.mp (name_strOk ho) c hc
abbrev nTtl : List Str := ["_law_state", "_law_size", "_law_words_here", "_law_k"]
def spTitles : Sp := fun vs H Q _ => ∃ (d g c : Addr) (t : Nat), vs = [.ref d, .int 4] ∧ Gen d g c t H ∧ t + 100 < 2 ^ 30 ∧
  ∀ (l : Addr) (ts : List Str) (H' : Hp), H l = none → H' l = some (.lst (ts.map V.str)) → ts.length = 4 → (∀ x ∈ ts, Ttl x) → Gen d g c (t + 92) H' → Kp d g H H' → Q (.ref l) H'
section
variable {P : Program} {w : World} {K : PySem.W.Frag} {mg : Str → Option Value} {base : Heap}
theorem scTitles : FnScope nTtl ["_law_state", "_law_size"] (defScope sTitles) := ⟨rfl, rfl, rfl, by decide +kernel, rfl, by decide +kernel, by decide +kernel⟩
theorem ok_titles {f : Addr} {fd : FuncData} (F : Fun K "_law_titles" "_law_titles" sTitles f fd) (DT : Df P w K mg base C8.CX0 "_law_take" 2 ["_law_state", "_law_size"] spTake) (DW : Df P w K mg base C8.CX0 "_law_words" 3 ["_law_state", "_law_size"] spWords) (T : Bt mg) :
    FnOk P w K mg base C8.CX0 4 f fd ["_law_state", "_law_size"] spTitles := by
  refine F.ok scTitles (fun vs H Q E h => ?_) (fun cdv A outer s H vs Q E hr h => ?_)
  · obtain ⟨d, g, c, t, rfl, _⟩ := h
    rfl
  · obtain ⟨d, g, c, t, rfl, G, ht, k⟩ := h
    have hr2 : Room 2 _ := hr.mono (by decide)
    refine ⟨_, pss_cons (ps_set (i := 2) scTitles.nd rfl (by first | exact Or.inl rfl | exact Or.inr rfl) (pe_df DW hr pass0 (pa_cons (pv 0) (pa_cons (pe_op op_mul pe_int (pv 1)) pa_nil))))
      (pss_one (ps_ret (pe_lc (own := [("_law_k", 3)]) (g := gName 3) (tt := tYes) rfl scTitles.nd (pi_range1 rfl T.range (pa_cons (pv 1) pa_nil)) (blkOk_by (N := nTtl) (sc := defScope sTitles) (by decide +kernel)) (fun _ _ _ _ _ => pg_name (i := 3) scTitles.nd rfl (Or.inl rfl)) (fun _ _ _ _ _ => pts_nil)
        (fun _ _ _ _ _ => pe_ifExp (pt_cmpR op_eq (pe_df DT hr pass0 (pa_cons (pv 0) (pa_cons pe_int pa_nil))) pe_int (nomark _))
          (pe_op op_add_str (pe_op op_add_str (pe_ix (show IxR _ (rIxL K) from ix_list) (pv 2) (pv 3) (fun _ _ => rfl)) pe_str) (pe_ix (show IxR _ (rIxL K) from ix_list) (pv 2) (pe_op op_add (pv 1) (pv 3)) (fun _ _ => rfl)))
          (pe_ix (show IxR _ (rIxL K) from ix_list) (pv 2) (pv 3) (fun _ _ => rfl)))))), ?_⟩
    refine ⟨_, rfl, _, rfl, _, _, rfl, rfl, .inl ⟨by decide, by decide⟩, d, g, c, t, 8, rfl, G, by omega, by omega, fun lw ws H1 wl wn ww ew hlw G1 k1 => ?_⟩
    have hnm : ∀ w ∈ ws, nameB w = true := fun w hw => nm_name (ww w hw)
    have dot : (Str.ofString ".").length = 1 := by decide +kernel
    refine ⟨_, rfl, 4, rfl, by omega, by omega, fun D hD => ?_⟩
    have nDw : D ≠ lw := fun z => by rw [z, ew] at hD; cases hD
    obtain ⟨Dd, Dg⟩ := G1.nd hD
    obtain ⟨wd, wg⟩ := G.nd hlw
    have hDH : H D = none := G.free G1 k1 hD
    have sD := Same.new (o := .lst []) (Same.refl H1) hD
    refine lc_range (lo := 0) (n := 4) (fun i H' => ∃ ts : List Str, ts.length = i ∧ (∀ x ∈ ts, Ttl x) ∧ H' D = some (.lst (ts.map V.str)) ∧ H' lw = some (.lst (ws.map V.str)) ∧ Gen d g c (t + 88 + i) H' ∧ Kp d g H H')
      ⟨[], rfl, (fun _ z => absurd z (by simp)), upd_same, by rw [upd_ne (Ne.symm nDw)]; exact ew, (G1.same sD).mono (by omega), k1.trans (Kp.of sD)⟩ ?_ ?_
    · rintro i H2 hi ⟨ts, tl, ta, eD, e2, G2, k2⟩
      refine ⟨rfl, _, rfl, d, g, c, _, 3, rfl, G2, by omega, by decide, by decide, fun u H3 u0 u1 G3 k3 => ?_⟩
      obtain ⟨a, ha⟩ : ∃ a, ws[i]? = some a := ⟨_, List.getElem?_eq_getElem (by omega)⟩
      obtain ⟨b, hb⟩ : ∃ b, ws[4 + i]? = some b := ⟨_, List.getElem?_eq_getElem (by omega)⟩
      have na := hnm a (List.mem_of_getElem? ha)
      have nb := hnm b (List.mem_of_getElem? hb)
      have la := name_len na
      have lb := name_len nb
      have e3 := k3 lw _ wd wg e2
      have eD3 := k3 D _ Dd Dg eD
      have ata : atI (ws.map V.str) (0 + (i : Int)) = some (.str a) := by
        rw [show (0 + (i : Int)) = ((i : Nat) : Int) by omega]
        exact atI_nat (by rw [List.getElem?_map, ha]; rfl)
      have atb : atI (ws.map V.str) ((4 : Int) + (0 + (i : Int))) = some (.str b) := by
        rw [show ((4 : Int) + (0 + (i : Int))) = ((4 + i : Nat) : Int) by omega]
        exact atI_nat (by rw [List.getElem?_map, hb]; rfl)
      have put : ∀ y, Ttl y → ∃ acc, H3 D = some (.lst acc) ∧ acc.length < sizeLine ∧ ∃ ts' : List Str, ts'.length = i + 1 ∧ (∀ x ∈ ts', Ttl x) ∧ (upd H3 D (.lst (acc ++ [V.str y]))) D = some (.lst (ts'.map V.str)) ∧ (upd H3 D (.lst (acc ++ [V.str y]))) lw = some (.lst (ws.map V.str)) ∧ Gen d g c (t + 88 + (i + 1)) (upd H3 D (.lst (acc ++ [V.str y]))) ∧ Kp d g H (upd H3 D (.lst (acc ++ [V.str y]))) := fun y hy => by
        refine ⟨_, eD3, by rw [List.length_map, sizeLine_eq]; omega, ts ++ [y], by rw [List.length_append, tl]; rfl, fun x hx => ?_, ?_, ?_, ?_, ?_⟩
        · rcases List.mem_append.mp hx with h | h
          · exact ta x h
          · rw [List.mem_singleton.mp h]; exact hy
        · rw [upd_same, List.map_append]; rfl
        · rw [upd_ne (Ne.symm nDw)]; exact e3
        · exact (G3.off Dd Dg (G1.nc hD)).mono (by omega)
        · exact (k2.trans k3).upd (.inl hDH)
      refine ⟨rfl, _, rfl, ?_⟩
      refine ite2 (fun _ => ?_) (fun _ => ?_)
      · refine ⟨_, rfl, _, rfl, lw, _, _, _, rfl, rfl, SqL.of e3, ata, _, _, rfl, rfl, by rw [dot, sizeLine_eq]; omega, _, rfl, _, rfl, _, rfl, _, _, rfl, rfl, lw, _, _, _, rfl, rfl, SqL.of e3, atb, _, _, rfl, rfl, by rw [app_len, dot, sizeLine_eq]; omega, ?_⟩
        exact put _ (ttl_two na nb)
      · refine ⟨_, rfl, _, rfl, lw, _, _, _, rfl, rfl, SqL.of e3, ata, ?_⟩
        exact put _ (ttl_name na)
    · rintro H2 ⟨ts, tl, ta, eD, e2, G2, k2⟩
      exact k D ts H2 hDH eD tl ta (G2.mono (by omega)) k2
end
end K1
set_option Elab.async false
set_option linter.all false
set_option maxRecDepth 100000
set_option maxHeartbeats 4000000
namespace K1
open PySem PySem.Spec PyProof.Rows L2
open PySem.W (EachIs)
abbrev sPlan : Stmt := topS 38
abbrev nPlan : List Str := ["_law_state", "_law_titles_here", "_law_names", "_law_height", "_law_way", "_law_first"]
/-- a scheme drawn at a height -/
structure Sch (h : Nat) (g : G) : Prop where
  pl : planB h g = true
  ok : PyData.strOk (text g) = true
  len : (text g).length + 7 ≤ 15 * 2 ^ h
  sz : sz g + 2 ≤ 5 * 2 ^ h
theorem Sch.le {h m : Nat} {g : G} (s : Sch h g) (q : h ≤ m) : Sch m g := by
  have := Nat.pow_le_pow_right (show 0 < 2 by decide) q
  exact ⟨planB_le q s.pl, s.ok, by have := s.len; omega, by have := s.sz; omega⟩
theorem Sch.tx {h : Nat} {g : G} (s : Sch h g) (q : h ≤ 6) : txB (text g) = true := by
  have := Nat.pow_le_pow_right (show 0 < 2 by decide) q
  have l := s.len
  unfold txB
  rw [decide_eq_true (by omega), Bool.true_and]
  exact s.ok
theorem Sch.gd {h : Nat} {g : G} (s : Sch h g) (q : h ≤ 6) : gd g = true := (gd_plan h g s.pl (s.tx q)).1
theorem pow1 {h : Nat} (hh : 1 ≤ h) : 2 ≤ 2 ^ h := by
  have := Nat.pow_le_pow_right (show 0 < 2 by decide) hh
  omega
/-- a word by itself -/
theorem sch_word {h : Nat} (hh : 1 ≤ h) {w : Str} (ha : ar w = some 0) : Sch h (.t [.s w]) := by
  obtain ⟨l, rfl⟩ : ∃ l, h = l + 1 := ⟨h - 1, by omega⟩
  have := pow1 hh
  have ht := (ar_tok ha).2.2.1
  refine ⟨?_, ?_, ?_, ?_⟩
  · unfold planB
    rw [ha]
    rfl
  · rw [text_w]
    have key : ∀ p ∈ arL, PyData.strOk p.1 = true := by decide +kernel
    exact key _ (ar_mem ha)
  · rw [text_w]; omega
  · simp only [K1.sz, List.map_cons, List.map_nil, List.sum_cons, List.sum_nil]; omega
theorem ok_app {x y : Str} (h1 : PyData.strOk x = true) (h2 : PyData.strOk y = true) : PyData.strOk (x ++ y) = true := strOk_iff.mpr fun c hc => by
  rw [app_l] at hc
  rcases List.mem_append.mp hc with hc | hc
  · exact strOk_iff.mp h1 c hc
  · exact strOk_iff.mp h2 c hc
theorem txt_one (w : Str) (p : G) : text (.t [.s w, p]) = w ++ Str.ofString "(" ++ text p ++ Str.ofString ")" := by
  rw [text_ts, if_neg (by simp), List.map_singleton, show Txt.join (Str.ofString ",") [text p] = text p from ext_l (join1_l _)]
theorem txt_two (w : Str) (p q : G) : text (.t [.s w, p, q]) = w ++ Str.ofString "(" ++ (text p ++ Str.ofString "," ++ text q) ++ Str.ofString ")" := by
  rw [text_ts, if_neg (by simp)]
  congr 2
theorem pk1 : PyData.strOk (Str.ofString "(") = true ∧ PyData.strOk (Str.ofString ")") = true ∧ PyData.strOk (Str.ofString ",") = true := by decide +kernel
theorem pl1 : (Str.ofString "(").length = 1 ∧ (Str.ofString ")").length = 1 ∧ (Str.ofString ",").length = 1 := by decide +kernel
theorem sch_leaf {h : Nat} (hh : 1 ≤ h) {w y : Str} (ha : ar w = none) (hl : leafB w y = true) (hy : y.length ≤ 17) (ho : PyData.strOk y = true) : Sch h (.t [.s w, .s y]) := by
  obtain ⟨l, rfl⟩ : ∃ l, h = l + 1 := ⟨h - 1, by omega⟩
  have := pow1 hh
  have hw : w = tuW ∨ w = plW := (leaf_word hl).1
  have hwl : w.length = 4 ∧ PyData.strOk w = true := by rcases hw with rfl | rfl <;> decide +kernel
  refine ⟨?_, ?_, ?_, ?_⟩
  · unfold planB
    rw [ha]
    exact hl
  · rw [txt_one, text_s]
    exact ok_app (ok_app (ok_app hwl.2 pk1.1) ho) pk1.2.1
  · rw [txt_one, text_s, app_len, app_len, app_len, pl1.1, pl1.2.1]; omega
  · simp only [K1.sz, List.map_cons, List.map_nil, List.sum_cons, List.sum_nil]; omega
theorem sch_one {h : Nat} {w : Str} {p : G} (ha : ar w = some 1) (hp : Sch h p) : Sch (h + 1) (.t [.s w, p]) := by
  have ht := (ar_tok ha).2.2.1
  have hok : PyData.strOk w = true := by
    have key : ∀ p ∈ arL, PyData.strOk p.1 = true := by decide +kernel
    exact key _ (ar_mem ha)
  have h1 := hp.len
  have h2 := hp.sz
  have e : 2 ^ (h + 1) = 2 * 2 ^ h := by rw [Nat.pow_succ]; omega
  have h3 : 1 ≤ 2 ^ h := Nat.one_le_two_pow
  refine ⟨?_, ?_, ?_, ?_⟩
  · unfold planB
    rw [ha]
    simp [hp.pl]
  · rw [txt_one]
    exact ok_app (ok_app (ok_app hok pk1.1) hp.ok) pk1.2.1
  · rw [txt_one, app_len, app_len, app_len, pl1.1, pl1.2.1, e]; omega
  · rw [sz_t, e]
    simp only [List.map_cons, List.map_nil, List.sum_cons, List.sum_nil, sz_s]
    omega
theorem sch_two {h : Nat} {w : Str} {p q : G} (ha : ar w = some 2) (hw4 : w.length ≤ 4) (hp : Sch h p) (hq : Sch h q) : Sch (h + 1) (.t [.s w, p, q]) := by
  have hok : PyData.strOk w = true := by
    have key : ∀ p ∈ arL, PyData.strOk p.1 = true := by decide +kernel
    exact key _ (ar_mem ha)
  have h1 := hp.len
  have h2 := hp.sz
  have h3 := hq.len
  have h4 := hq.sz
  have e : 2 ^ (h + 1) = 2 * 2 ^ h := by rw [Nat.pow_succ]; omega
  refine ⟨?_, ?_, ?_, ?_⟩
  · unfold planB
    rw [ha]
    simp [hp.pl, hq.pl]
  · rw [txt_two]
    exact ok_app (ok_app (ok_app hok pk1.1) (ok_app (ok_app hp.ok pk1.2.2) hq.ok)) pk1.2.1
  · rw [txt_two, app_len, app_len, app_len, app_len, app_len, pl1.1, pl1.2.1, pl1.2.2, e]; omega
  · rw [sz_t, e]
    simp only [List.map_cons, List.map_nil, List.sum_cons, List.sum_nil, sz_s]
    omega
def spPlan (K : PySem.W.Frag) (n : Nat) : Sp := fun vs H Q _ => ∃ (d g c tl nl : Addr) (t h : Nat) (ts ns : List Str), vs = [.ref d, .ref tl, .ref nl, .int h] ∧ Gen d g c t H ∧ t + 2 ^ (h + 1) < 2 ^ 29 ∧ 1 ≤ h ∧ h ≤ n ∧ n ≤ 6 ∧ H tl = some (.lst (ts.map V.str)) ∧ H nl = some (.lst (ns.map V.str)) ∧ tl ≠ d ∧ tl ≠ g ∧ nl ≠ d ∧ nl ≠ g ∧ ts.length = 4 ∧ ns.length = 4 ∧ (∀ x ∈ ts, Ttl x) ∧ (∀ x ∈ ns, nameB x = true) ∧
  ∀ (v : V) (p : G) (H' : Hp), In K H' v p → Sch h p → Gen d g c (t + (2 ^ (h + 1) - 1)) H' → Kp d g H H' → Q v H'
section
variable {P : Program} {w : World} {K : PySem.W.Frag} {mg : Str → Option Value} {base : Heap}
theorem scPlan : FnScope nPlan ["_law_state", "_law_titles_here", "_law_names", "_law_height"] (defScope sPlan) := ⟨rfl, rfl, rfl, by decide +kernel, rfl, by decide +kernel, by decide +kernel⟩
theorem ok_plan {f : Addr} {fd : FuncData} {n m : Nat} {spI : Sp} (F : Fun K "_law_plan" "_law_plan" sPlan f fd) (IH : Df P w K mg base C8.CX0 "_law_plan" m ["_law_state", "_law_titles_here", "_law_names", "_law_height"] spI)
    (hI : ∀ vs H Q E, (1 ≤ n - 1 ∧ spPlan K (n - 1) vs H Q E) → spI vs H Q E)
    (DT : Df P w K mg base C8.CX0 "_law_take" 2 ["_law_state", "_law_size"] spTake) (DP : Df P w K mg base C8.CX0 "_law_pick" 3 ["_law_state", "_law_some"] spPick) (T : Bt mg) (hm : 3 ≤ m) :
    FnOk P w K mg base C8.CX0 (m + 1) f fd ["_law_state", "_law_titles_here", "_law_names", "_law_height"] (spPlan K n) := by
  refine F.ok scPlan (fun vs H Q E h => ?_) (fun cdv A outer s H vs Q E hr h => ?_)
  · obtain ⟨d, g, c, tl, nl, t, h, ts, ns, rfl, _⟩ := h
    rfl
  · obtain ⟨d, g, c, tl, nl, t, h, ts, ns, rfl, G, ht, h1, hn, h6, etl, enl, td, tg, nd, ng, l1, l2, a1, a2, k⟩ := h
    have hr2 : Room 2 _ := hr.mono (by omega)
    have hr3 : Room 3 _ := hr.mono hm
    have hu := units10 hr
    refine ⟨_, C8.pss_cut (ps_set (i := 4) scPlan.nd rfl (Or.inl rfl) (pe_ifExp (pt_cmpR op_gt (pv 3) pe_int (nomark _)) (pe_df DT hr2 pass0 (pa_cons (pv 0) (pa_cons pe_int pa_nil))) (pe_df DT hr2 pass0 (pa_cons (pv 0) (pa_cons pe_int pa_nil)))))
      (pss_cons (ps_if (PW.pt (pw_or (pt_cmpR op_lt (pv 4) pe_int (nomark _)) (pw_or (PW.pt (pw_and (pt_cmpR op_lt (pv 4) pe_int (nomark _)) (pw_and1 (pt_cmpR (SrtF.op_eqNil hu) (pv 1) (pe_lst pa_nil) (nomark _))))) (pw_or1 (PW.pt (pw_and (pt_cmpR op_eq (pv 4) pe_int (nomark _)) (pw_and1 (pt_cmpR (SrtF.op_eqNil hu) (pv 2) (pe_lst pa_nil) (nomark _)))))))))
        (pss_one (ps_ret (pe_tup (pa_cons pe_str pa_nil)))) pss_nil)
      (pss_cons (ps_if (pt_cmpR op_lt (pv 4) pe_int (nomark _)) (pss_one (ps_ret (pe_tup (pa_cons pe_str (pa_cons (pe_df DP hr3 pass0 (pa_cons (pv 0) (pa_cons (pv 1) pa_nil))) pa_nil))))) pss_nil)
      (pss_cons (ps_if (pt_cmpR op_lt (pv 4) pe_int (nomark _)) (pss_one (ps_ret (pe_ifExp (pt_cmpR op_eq (pv 4) pe_int (nomark _)) (pe_tup (pa_cons pe_str (pa_cons (pe_df DP hr3 pass0 (pa_cons (pv 0) (pa_cons (pv 2) pa_nil))) pa_nil)))
          (pe_tup (pa_cons (pe_df DP hr3 pass0 (pa_cons (pv 0) (pa_cons (pe_lst (pa_cons pe_str (pa_cons pe_str pa_nil))) pa_nil))) pa_nil))))) pss_nil)
      (pss_cons (ps_set (i := 5) scPlan.nd rfl (Or.inl rfl) (pe_df IH hr pass0 (pa_cons (pv 0) (pa_cons (pv 1) (pa_cons (pv 2) (pa_cons (pe_op op_sub (pv 3) pe_int) pa_nil)))) (Nat.le_refl _)))
      (pss_cons (ps_if (pt_cmpR op_lt (pv 4) pe_int (nomark _)) (pss_one (ps_ret (pe_tup (pa_cons (pe_ix ix_list (pe_lst (pa_cons pe_str (pa_cons pe_str pa_nil))) (pe_op op_mod (pv 4) pe_int) (fun _ _ => rfl)) (pa_cons (pv 5) (pa_cons (pe_df IH hr pass0 (pa_cons (pv 0) (pa_cons (pv 1) (pa_cons (pv 2) (pa_cons (pe_op op_sub (pv 3) pe_int) pa_nil)))) (Nat.le_refl _)) pa_nil)))))) pss_nil)
      (pss_one (ps_ret (pe_tup (pa_cons (pe_ix ix_list (pe_lst (pa_cons pe_str (pa_cons pe_str (pa_cons pe_str (pa_cons pe_str pa_nil))))) (pe_op op_sub (pv 4) pe_int) (fun _ _ => rfl)) (pa_cons (pv 5) pa_nil)))))))))), ?_⟩
    have hp2 := pow1 h1
    have e2 : 2 ^ (h + 1) = 2 * 2 ^ h := by rw [Nat.pow_succ]; omega
    refine ⟨fun σ' H1 => ∃ (v : Int), σ' = [some (.ref d), some (.ref tl), some (.ref nl), some (.int h), some (.int v), none] ∧ 0 ≤ v ∧ v < 16 ∧ (6 ≤ v → 2 ≤ h) ∧ Gen d g c (t + 1) H1 ∧ Kp d g H H1, ?_, ?_⟩
    · refine ⟨_, rfl, _, _, rfl, rfl, _, rfl, ?_⟩
      refine ite2 (fun z => ?_) (fun z => ?_)
      · have z' : (1 : Int) < (h : Int) := of_decide_eq_true z
        exact ⟨_, rfl, d, g, c, t, 16, rfl, G, by omega, by decide, by decide, fun v H1 v0 v1 G1 k1 => ⟨v, rfl, v0, v1, fun _ => by omega, G1, k1⟩⟩
      · exact ⟨_, rfl, d, g, c, t, 6, rfl, G, by omega, by decide, by decide, fun v H1 v0 v1 G1 k1 => ⟨v, rfl, v0, by omega, fun _ => by omega, G1, k1⟩⟩
    · rintro σ' H1 ⟨v, rfl, v0, v16, vh, G1, k1⟩
      have et1 := k1 tl _ td tg etl
      have en1 := k1 nl _ nd ng enl
      have tne : (ts.map V.str).isEmpty = false := by
        cases ts with
        | nil => cases l1
        | cons _ _ => rfl
      have nne : (ns.map V.str).isEmpty = false := by
        cases ns with
        | nil => cases l2
        | cons _ _ => rfl
      have put : ∀ (H2 : Hp) (q : Addr) (xs : List V) (gs : List K1.G), Kp d g H H2 → Gen d g c (t + (2 ^ (h + 1) - 1)) H2 → H2 q = none → InL K H2 xs gs → Sch h (.t gs) → Q (.ref q) (upd H2 q (.tup xs)) := fun H2 q xs gs k2 G2 hq hin hs =>
        k (.ref q) (.t gs) _ (.t (SqT.of upd_same) (hin.same (Same.new (Same.refl H2) hq))) hs (G2.new hq) (k2.trans (Kp.of (Same.new (Same.refl H2) hq)))
      refine ⟨_, rfl, _, _, rfl, rfl, _, rfl, ?_⟩
      have any : ∀ (H2 : Hp), Kp d g H H2 → Gen d g c (t + 1) H2 → ∀ q, H2 q = none → Q (.ref q) (upd H2 q (.tup [.str (Str.ofString "any")])) := fun H2 k2 G2 q hq =>
        put H2 q _ [.s (Str.ofString "any")] k2 (G2.mono (by omega)) hq (.cons (.s _) .nil) (sch_word (w := Str.ofString "any") h1 (by decide +kernel))
      by_cases c1 : v < 2
      · refine iteT_ (decide_eq_true c1) (iteT_ rfl ?_)
        exact ⟨(by show 1 ≤ sizeLine; decide), fun q hq => any H1 k1 G1 q hq⟩
      refine iteF_ (by simpa using c1) ?_
      refine ⟨_, rfl, _, _, rfl, rfl, _, rfl, ?_⟩
      by_cases c2 : v < 4
      · refine iteT_ (decide_eq_true c2) ?_
        refine ⟨_, rfl, (by show 0 ≤ sizeLine; decide), fun z hz => ⟨tl, z, _, rfl, rfl, SqL.of ((Same.new (Same.refl H1) hz) _ _ et1), SqL.of upd_same, _, rfl, iteF_ (by rw [tne]; exact Bool.false_ne_true) ?_⟩⟩
        have sz1 := Same.new (o := .lst []) (Same.refl H1) hz
        refine ⟨_, rfl, rfl, _, rfl, iteF_ (vint_ne (by omega)) (iteF_ Bool.false_ne_true ?_)⟩
        refine ⟨_, rfl, _, _, rfl, rfl, _, rfl, iteT_ (decide_eq_true c2) ?_⟩
        refine ⟨_, rfl, _, rfl, d, g, c, tl, _, ts.map V.str, rfl, G1.same sz1, by omega, sz1 _ _ et1, tg, (by cases ts with | nil => cases l1 | cons _ _ => simp), by rw [List.length_map]; omega, fun x H2 hx G2 k2 => ?_⟩
        obtain ⟨y, hy, rfl⟩ := get_map hx
        refine ⟨(by show 2 ≤ sizeLine; decide), fun q hq => ?_⟩
        have ty := a1 y hy
        exact put H2 q _ [.s tuW, .s y] ((k1.trans (Kp.of sz1)).trans k2) (G2.mono (by omega)) hq (.cons (.s _) (.cons (.s _) .nil)) (sch_leaf h1 (by decide +kernel) (by unfold leafB; rw [decide_eq_true rfl, ty.ti]; rfl) ty.len ty.ok)
      refine iteF_ (by simpa using c2) (iteF_ Bool.false_ne_true ?_)
      refine ⟨_, rfl, rfl, _, rfl, ?_⟩
      by_cases c3 : v = 4
      · refine iteT_ (vint_eq c3) ?_
        refine ⟨_, rfl, (by show 0 ≤ sizeLine; decide), fun z hz => ⟨nl, z, _, rfl, rfl, SqL.of ((Same.new (Same.refl H1) hz) _ _ en1), SqL.of upd_same, _, rfl, iteF_ (by rw [nne]; exact Bool.false_ne_true) ?_⟩⟩
        have sz1 := Same.new (o := .lst []) (Same.refl H1) hz
        refine ⟨_, rfl, _, _, rfl, rfl, _, rfl, iteF_ (by simpa using c2) ?_⟩
        refine ⟨_, rfl, _, _, rfl, rfl, _, rfl, iteT_ (decide_eq_true (by omega)) ?_⟩
        refine ⟨_, rfl, rfl, _, rfl, iteT_ (vint_eq c3) ?_⟩
        refine ⟨_, rfl, _, rfl, d, g, c, nl, _, ns.map V.str, rfl, G1.same sz1, by omega, sz1 _ _ en1, ng, (by cases ns with | nil => cases l2 | cons _ _ => simp), by rw [List.length_map]; omega, fun x H2 hx G2 k2 => ?_⟩
        obtain ⟨y, hy, rfl⟩ := get_map hx
        refine ⟨(by show 2 ≤ sizeLine; decide), fun q hq => ?_⟩
        have ny := a2 y hy
        have ly := name_len ny
        exact put H2 q _ [.s plW, .s y] ((k1.trans (Kp.of sz1)).trans k2) (G2.mono (by omega)) hq (.cons (.s _) (.cons (.s _) .nil)) (sch_leaf h1 (by decide +kernel) ((leaf_iff _ _).mpr (.inr ⟨rfl, ny⟩)) (by omega) (name_strOk ny))
      refine iteF_ (vint_ne c3) (iteF_ Bool.false_ne_true ?_)
      refine ⟨_, rfl, _, _, rfl, rfl, _, rfl, iteF_ (by simpa using c2) ?_⟩
      refine ⟨_, rfl, _, _, rfl, rfl, _, rfl, ?_⟩
      by_cases c4 : v < 6
      · refine iteT_ (decide_eq_true c4) ?_
        refine ⟨_, rfl, rfl, _, rfl, iteF_ (vint_ne c3) ?_⟩
        refine ⟨_, rfl, (by show 2 ≤ sizeLine; decide), fun z hz => ?_⟩
        have sz1 := Same.new (o := .lst [.str (Str.ofString "stay"), .str (Str.ofString "none")]) (Same.refl H1) hz
        obtain ⟨zd, zg⟩ := G1.nd hz
        refine ⟨d, g, c, z, _, _, rfl, G1.same sz1, by omega, upd_same, zg, by simp, by simp, fun x H2 hx G2 k2 => ?_⟩
        refine ⟨(by show 1 ≤ sizeLine; decide), fun q hq => ?_⟩
        obtain ⟨w0, rfl, hw0⟩ : ∃ w0, x = .str w0 ∧ ar w0 = some 0 := by
          simp only [List.mem_cons, List.not_mem_nil, or_false] at hx
          rcases hx with rfl | rfl
          · exact ⟨_, rfl, by decide +kernel⟩
          · exact ⟨_, rfl, by decide +kernel⟩
        exact put H2 q _ [.s w0] ((k1.trans (Kp.of sz1)).trans k2) (G2.mono (by omega)) hq (.cons (.s _) .nil) (sch_word h1 hw0)
      refine iteF_ (by simpa using c4) ?_
      have hh2 := vh (by omega)
      obtain ⟨h', rfl⟩ : ∃ h', h = h' + 1 := ⟨h - 1, by omega⟩
      have eh : (((h' + 1 : Nat) : Int) - 1) = ((h' : Nat) : Int) := by omega
      have e3 : 2 ^ (h' + 1 + 1) = 2 * 2 ^ (h' + 1) := by rw [Nat.pow_succ]; omega
      have e4 := pow1 (show 1 ≤ h' + 1 by omega)
      refine ⟨_, rfl, _, rfl, _, rfl, _, rfl, _, _, rfl, rfl, hI _ _ _ _ ⟨by omega, d, g, c, tl, nl, t + 1, h', ts, ns, (by show [V.ref d, V.ref tl, V.ref nl, V.int (((h' + 1 : Nat) : Int) - 1)] = _; rw [eh]), G1, by omega, by omega, by omega, by omega, et1, en1, td, tg, nd, ng, l1, l2, a1, a2, fun v1 p1 H2 i1 s1 G2 k2 => ?_⟩⟩
      refine ⟨_, rfl, _, _, rfl, rfl, _, rfl, ?_⟩
      have kk2 := k1.trans k2
      by_cases c5 : v < 12
      · refine iteT_ (decide_eq_true c5) ?_
        have r0 : 0 ≤ v % 2 := Int.emod_nonneg _ (by omega)
        have r1 : v % 2 < 2 := Int.emod_lt_of_pos _ (by omega)
        refine ⟨(by show 2 ≤ sizeLine; decide), fun z hz => ?_⟩
        have sz2 := Same.new (o := .lst [.str (Str.ofString "then"), .str (Str.ofString "else")]) (Same.refl H2) hz
        obtain ⟨x, hx, mx⟩ := at_nat (xs := [V.str (Str.ofString "then"), .str (Str.ofString "else")]) r0 (by show v % 2 < ((2 : Nat) : Int); omega)
        obtain ⟨w0, rfl, hw0, hw4⟩ : ∃ w0, x = .str w0 ∧ ar w0 = some 2 ∧ w0.length ≤ 4 := by
          simp only [List.mem_cons, List.not_mem_nil, or_false] at mx
          rcases mx with rfl | rfl
          · exact ⟨_, rfl, by decide +kernel, by decide +kernel⟩
          · exact ⟨_, rfl, by decide +kernel, by decide +kernel⟩
        have et2 := sz2 _ _ (k2 tl _ td tg et1)
        have en2 := sz2 _ _ (k2 nl _ nd ng en1)
        refine ⟨_, rfl, _, _, rfl, rfl, (by show (0 : Int) < 2; decide), z, _, _, _, rfl, rfl, SqL.of upd_same, hx, ?_⟩
        refine ⟨_, rfl, _, rfl, _, rfl, _, rfl, _, rfl, _, _, rfl, rfl, hI _ _ _ _ ⟨by omega, d, g, c, tl, nl, t + 1 + (2 ^ (h' + 1) - 1), h', ts, ns, (by show [V.ref d, V.ref tl, V.ref nl, V.int (((h' + 1 : Nat) : Int) - 1)] = _; rw [eh]), G2.same sz2, by omega, by omega, by omega, by omega, et2, en2, td, tg, nd, ng, l1, l2, a1, a2, fun v2 p2 H3 i2 s2 G3 k3 => ?_⟩⟩
        refine ⟨(by show 3 ≤ sizeLine; decide), fun q hq => ?_⟩
        have i1' : In K H3 v1 p1 := in_tkg (G2.tkp ((Kp.of sz2).trans k3)) _ _ _ (Nat.le_refl _) (s1.gd (by omega)) i1
        exact put H3 q _ [.s w0, p1, p2] ((kk2.trans (Kp.of sz2)).trans k3) (G3.mono (by omega)) hq (.cons (.s _) (.cons i1' (.cons i2 .nil))) (sch_two hw0 hw4 s1 s2)
      · refine iteF_ (by simpa using c5) ?_
        refine ⟨(by show 4 ≤ sizeLine; decide), fun z hz => ?_⟩
        have sz2 := Same.new (o := .lst [.str (Str.ofString "often"), .str (Str.ofString "part"), .str (Str.ofString "parts"), .str (Str.ofString "not")]) (Same.refl H2) hz
        obtain ⟨x, hx, mx⟩ := at_nat (xs := [V.str (Str.ofString "often"), .str (Str.ofString "part"), .str (Str.ofString "parts"), .str (Str.ofString "not")]) (v := v - 12) (by omega) (by show v - 12 < ((4 : Nat) : Int); omega)
        obtain ⟨w0, rfl, hw0⟩ : ∃ w0, x = .str w0 ∧ ar w0 = some 1 := by
          simp only [List.mem_cons, List.not_mem_nil, or_false] at mx
          rcases mx with rfl | rfl | rfl | rfl <;> exact ⟨_, rfl, by decide +kernel⟩
        refine ⟨_, rfl, _, _, rfl, rfl, z, _, _, _, rfl, rfl, SqL.of upd_same, hx, _, rfl, (by show 2 ≤ sizeLine; decide), fun q hq => ?_⟩
        exact put _ q _ [.s w0, p1] (kk2.trans (Kp.of sz2)) ((G2.same sz2).mono (by omega)) hq (.cons (.s _) (.cons (i1.same sz2) .nil)) (sch_one hw0 s1)
end
end K1
set_option Elab.async false
set_option linter.all false
set_option maxRecDepth 100000
set_option maxHeartbeats 2000000
namespace K1
open PySem PySem.Spec PyProof.Rows L2
open PySem.W (EachIs)
abbrev sSaid : Stmt := topS 39
abbrev nSaid : List Str := ["_law_scheme", "_law_inner", "_law_one"]
section
variable {P : Program} {w : World} {K : PySem.W.Frag} {mg : Str → Option Value} {base : Heap}
theorem scSaid : FnScope nSaid ["_law_scheme"] (defScope sSaid) := ⟨rfl, rfl, rfl, by decide +kernel, rfl, by decide +kernel, by decide +kernel⟩
theorem ok_said {f : Addr} {fd : FuncData} {n m : Nat} {spI : Sp} (F : Fun K "_law_said" "_law_said" sSaid f fd) (IH : Df P w K mg base C8.CX0 "_law_said" m ["_law_scheme"] spI)
    (hI : ∀ l, l + 1 ≤ n → ∀ vs H Q E, (∃ (v : V) (g : G), vs = [v] ∧ In K H v g ∧ planB l g = true ∧ (text g).length ≤ 1000 ∧ ∀ H', Same H H' → Q (.str (text g)) H') → spI vs H Q E)
    (T : Ct mg) : FnOk P w K mg base C8.CX0 (m + 1) f fd ["_law_scheme"] (spTx K n) := by
  refine F.ok scSaid (fun vs H Q E h => ?_) (fun cdv A outer s H vs Q E hr h => ?_)
  · obtain ⟨v, g, l, rfl, _⟩ := h
    rfl
  · obtain ⟨v, g, l, rfl, hin, hl, hp, hlen, k⟩ := h
    refine ⟨_, pss_cons (ps_setLc (i := 1) (own := [("_law_one", 2)]) (g := gName 2) (tt := tYes) rfl scSaid.nd rfl rfl (sw_true rfl rfl rfl (by decide +kernel)) (pi_tup (pe_slice sl_tup (pv 0) (po_some pe_int) po_none)) (blkOk_by (N := nSaid) (sc := defScope sSaid) (by decide +kernel)) (fun _ _ _ _ _ => pg_name (i := 2) scSaid.nd rfl (Or.inl rfl)) (fun _ _ _ _ _ => pts_nil)
        (fun _ _ _ _ _ => pe_ifExp (pt_val (pe_callB (show CallR _ _ (rIsi K) from call_isi) (by rfl) T.isi boot_isinstance (pa_cons (pv 2) (pa_cons (pe_bltn (v := .ty "tuple") (by rfl) T.tuple boot_tuple rfl) pa_nil)))) (pe_df IH hr pass0 (pa_cons (pv 2) pa_nil) (Nat.le_refl _)) (pv 2)))
      (pss_one (ps_ret (pe_ifExp (pt_cmpR (op_neNil (units10 hr)) (pv 1) (pe_lst pa_nil) (nomark _))
        (pe_op op_add_str (pe_op op_add_str (pe_op op_add_str (pe_ix ix_tup (pv 0) pe_int (fun _ _ => rfl)) pe_str) (pe_join pe_str (pv 1))) pe_str)
        (pe_ix ix_tup (pv 0) pe_int (fun _ _ => rfl))))), ?_⟩
    obtain ⟨l', wd, ps, rfl, rfl, q⟩ := planB_cases hp
    obtain ⟨a, xs, rfl, hx, hg⟩ := hin.tup
    have hlen2 := hg.len
    rw [List.length_cons] at hlen2
    have hne := ne_nil hg
    have hx0 : xs[0]? = some (.str wd) := by
      obtain ⟨v0, e0, h0⟩ := hg.get (i := 0) rfl
      rw [e0, h0.str]
    have at0 : atI xs 0 = some (.str wd) := atI_nat (j := 0) hx0
    obtain ⟨tl1, tl2, tl3⟩ := text_part 1000 hlen
    have hps : ps.length ≤ 2 := by
      rcases q with ⟨nn, ha, hn, _⟩ | ⟨_, y, rfl, _⟩
      · have := (ar_tok ha).2.2.2
        omega
      · simp
    refine ⟨_, rfl, _, rfl, a, xs, rfl, hx, whole_1 hne, fun p hpn => ⟨p, rfl, ⟨_, SqT.of upd_same⟩, fun D hD => ?_⟩⟩
    have sq := Same.new (o := .tup (cutV xs (some 1) none)) (Same.refl H) hpn
    have hgd : InL K (upd H p (.tup (cutV xs (some 1) none))) (cutV xs (some 1) none) ps := by
      have z := (hg.drop 1).same sq
      rw [← cut_1] at z
      exact z
    refine lc_tpl (K := K) (gs := ps) (fun H y g => y = .str (text g)) hD (SqT.of upd_same) hgd (by rw [hgd.len]; omega) (fun y g H H' hm h tk => h) (fun _ => rfl) ?_ ?_
    · intro x g H' hgm hxin e' Q' q'
      obtain ⟨d', t1', t2'⟩ := isi_tup hxin
      refine ⟨_, rfl, _, _, _, _, _, rfl, .ty "tuple", t1', t2', _, rfl, ?_⟩
      rcases q with ⟨nn, ha, hn, hpp⟩ | ⟨ha, y, rfl, hlf⟩
      · have hgp := hpp g hgm
        have hT : isT g = true := by
          obtain ⟨_, _, _, _, rfl, _⟩ := planB_cases hgp
          rfl
        refine iteT_ hT ?_
        exact ⟨_, rfl, hI l' (by omega) _ _ _ _ ⟨x, g, rfl, hxin, hgp, tl2 g hgm, fun H'' s'' => q' _ _ s'' rfl⟩⟩
      · obtain rfl := List.mem_singleton.mp hgm
        refine iteF_ Bool.false_ne_true ⟨_, rfl, q' _ _ (Same.refl _) ?_⟩
        rw [hxin.str, text_s]
    · intro H' ys e' eD hr'
      have hys := each_val (f := fun g => V.str (text g)) hr'
      have hys2 : ys = (ps.map text).map V.str := by rw [hys, List.map_map]; rfl
      subst hys2
      have sA := sq.trans e'
      have hxA := sqt_same sA hx
      refine ⟨_, rfl, (by show 0 ≤ sizeLine; decide), fun z hz => ?_⟩
      have sz := Same.new (o := .lst []) (Same.refl H') hz
      have sB := sA.trans sz
      have hxB := sqt_same sB hx
      refine ⟨D, z, _, rfl, rfl, SqL.of (sz _ _ eD), SqL.of upd_same, _, rfl, ?_⟩
      have q1 := k _ sB
      rw [text_ts] at q1
      cases hps2 : ps with
      | nil =>
        rw [hps2, if_pos rfl] at q1
        exact iteF_ (by simp) ⟨_, rfl, a, xs, 0, _, rfl, rfl, hxB, at0, q1⟩
      | cons p0 ps0 =>
        have hne2 : ps ≠ [] := by rw [hps2]; simp
        rw [if_neg hne2] at q1
        rw [← hps2]
        have lp : (Str.ofString "(").length = 1 := by decide +kernel
        have rp : (Str.ofString ")").length = 1 := by decide +kernel
        have e3 : (Str.ofString ",").length = 1 := by decide +kernel
        have jl : (Txt.join (Str.ofString ",") (ps.map text)).length ≤ 1000 := by
          have := tl3 hne2
          have e := jn_join (ps.map text) (by rw [hps2]; simp)
          rw [← len_toList, show (Txt.join (Str.ofString ",") (ps.map text)).cps.toList = jn (ps.map text) from e]
          omega
        have jsum : ((ps.map text).map (·.length)).sum + (ps.map text).length * (Str.ofString ",").length ≤ 4000 := by
          have h1 : ((ps.map text).map (·.length)).sum ≤ (ps.map text).length * 1000 := by
            have key : ∀ ws : List Str, (∀ w ∈ ws, w.length ≤ 1000) → (ws.map (·.length)).sum ≤ ws.length * 1000 := fun ws => by
              induction ws with
              | nil => intro _; simp
              | cons a r ih =>
                intro h
                have h1 := ih fun w hw => h w (List.mem_cons_of_mem _ hw)
                have h2 := h a List.mem_cons_self
                simp only [List.map_cons, List.sum_cons, List.length_cons]
                omega
            exact key _ fun w hw => by
              obtain ⟨p, hp', rfl⟩ := List.mem_map.mp hw
              exact tl2 p hp'
          rw [List.length_map] at h1 ⊢
          rw [e3]
          omega
        refine iteT_ (by rw [hps2]; rfl) ?_
        refine ⟨_, rfl, a, xs, 0, _, rfl, rfl, hxB, at0, _, _, rfl, rfl, by rw [lp, sizeLine_eq]; omega, ⟨_, rfl⟩, _, rfl, _, D, ps.map text, rfl, rfl, .inl (SqL.of (sz _ _ eD)), fit_line (m := 4000) jsum (by decide), _, _, rfl, rfl, by rw [app_len, lp, sizeLine_eq]; omega, _, _, rfl, rfl, by rw [app_len, app_len, lp, rp, sizeLine_eq]; omega, q1⟩
end
end K1
set_option Elab.async false
set_option linter.all false
set_option maxRecDepth 100000
set_option maxHeartbeats 2000000
namespace K1
open PySem PySem.Spec PyProof.Rows L2
open PySem.W (EachIs)
abbrev sLName : Stmt := topS 40
abbrev nLName : List Str := ["_law_word", "_law_letters", "_law_sign"]
def spLName : Sp := fun vs H Q _ => ∃ (x : Str), vs = [.str x] ∧ x.length ≤ 5000 ∧ ∀ H', Same H H' → Q (.bl (nameB x)) H'
section
variable {P : Program} {w : World} {K : PySem.W.Frag} {mg : Str → Option Value} {base : Heap}
theorem scLName : FnScope nLName ["_law_word"] (defScope sLName) := ⟨rfl, rfl, rfl, by decide +kernel, rfl, by decide +kernel, by decide +kernel⟩
theorem ok_lname {f : Addr} {fd : FuncData} (F : Fun K "_law_is_name" "_law_is_name" sLName f fd) (T : Ct mg) : FnOk P w K mg base C8.CX0 1 f fd ["_law_word"] spLName := by
  refine F.ok scLName (fun vs H Q E h => ?_) (fun cdv A outer s H vs Q E hr h => ?_)
  · obtain ⟨x, rfl, _⟩ := h
    rfl
  · obtain ⟨x, rfl, hl, k⟩ := h
    refine ⟨_, pss_cons (ps_set (i := 1) scLName.nd rfl (by first | exact Or.inl rfl | exact Or.inr rfl) pe_str)
      (pss_one (ps_ret (pe_and (pe_chain op_lt op_lt pe_int (pe_callB call_len (by rfl) T.len PySem.boot_len (pa_cons (pv 0) pa_nil)) pe_int)
        (pe_one (pe_cmpR (SrtF.op_eqNil (units10 hr)) (pe_lc (own := [("_law_sign", 2)]) (g := gName 2) (tt := tTest (tOp (fun x y H Q => ∃ (c : Nat) (z : Str), x = .str ⟨#[c]⟩ ∧ y = .str z ∧ Q (.bl (!decide (c ∈ z.cps.toList))) H) (tVar 2) (tVar 1))) rfl scLName.nd (pi_str (pv 0)) (blkOk_by (N := nLName) (sc := defScope sLName) (by decide +kernel)) (fun _ _ _ _ _ => pg_name (i := 2) scLName.nd rfl (Or.inl rfl)) (fun _ _ _ _ _ => pts_one (pt_cmpR op_notIn_sign (pv 2) (pv 1) (by rfl)))
          (fun _ _ _ _ _ => pv 2)) (pe_lst pa_nil) (nomark _)))))), ?_⟩
    refine ⟨_, rfl, .str x, x.length, rfl, ⟨by rw [sizeLine_eq]; omega, rfl⟩, _, _, rfl, rfl, _, rfl, ?_⟩
    have no : (¬ (1 ≤ x.length ∧ x.length ≤ 8)) → Q (.bl false) H := fun h => by
      have q1 := k H (Same.refl H)
      unfold nameB at q1
      rw [decide_eq_false h, Bool.false_and] at q1
      exact q1
    refine ite2 (fun h1 => ?_) (fun h1 => ?_)
    · rw [decide_eq_true_iff] at h1
      refine ⟨_, _, rfl, rfl, _, rfl, ?_⟩
      refine ite2 (fun h2 => ?_) (fun h2 => ?_)
      · rw [decide_eq_true_iff] at h2
        have hb : decide (1 ≤ x.length ∧ x.length ≤ 8) = true := decide_eq_true (by omega)
        refine ⟨_, rfl, x, rfl, fun D hD => lc_it walk_str (fun i H6 => Same H H6 ∧ H6 D = some (.lst (((x.cps.toList.take i).filter fun c => !isLow c).map fun c => V.str (ch c)))) ⟨Same.new (Same.refl H) hD, upd_same⟩ (fun _ _ _ _ => trivial) ?_ ?_⟩
        · rintro i y H6 H7 hi ⟨s6, eD⟩ ⟨rfl, c, hch, rfl⟩
          have hch' : x.cps.toList[i]? = some c := by rw [Array.getElem?_toList]; exact hch
          have hi' : i < x.length := hi
          refine ⟨rfl, _, rfl, _, rfl, c, abc, rfl, rfl, _, rfl, ?_⟩
          have hm := mem_abc c
          refine ite2 (fun hb2 => ?_) (fun hb2 => ?_)
          · rw [hm] at hb2
            refine ⟨_, rfl, _, eD, ?_, ?_, ?_⟩
            · rw [List.length_map, sizeLine_eq]
              have := List.length_filter_le (fun c => !isLow c) (x.cps.toList.take i)
              rw [List.length_take] at this
              omega
            · exact fun b o e => by
                rw [upd_ne (ne_of_none e hD)]
                exact s6 b o e
            · rw [upd_same, take_snoc hch', List.filter_append, List.map_append]
              simp [hb2]
              rfl
          · rw [hm] at hb2
            refine ⟨s6, ?_⟩
            have hb3 : isLow c = true := by simpa using hb2
            rw [eD, take_snoc hch', List.filter_append]
            simp [hb3]
        · rintro H6 ⟨s6, eD⟩
          rw [show x.cps.size = x.cps.toList.length from rfl, List.take_length] at eD
          refine ⟨(by show 0 ≤ sizeLine; decide), fun z hz => ⟨D, z, _, rfl, rfl, SqL.of ((Same.new (Same.refl H6) hz) _ _ eD), SqL.of upd_same, ?_⟩⟩
          have q1 := k _ (s6.trans (Same.new (o := .lst []) (Same.refl H6) hz))
          unfold nameB at q1
          rw [hb, Bool.true_and] at q1
          have e : (((x.cps.toList.filter fun c => !isLow c).map fun c => V.str (ch c)).isEmpty) = x.cps.toList.all isLow := by
            rw [Bool.eq_iff_iff]
            simp only [List.isEmpty_iff, List.map_eq_nil_iff, List.filter_eq_nil_iff, List.all_eq_true]
            exact ⟨fun h c hc => by simpa using h c hc, fun h c hc => by simpa using h c hc⟩
          rw [e]
          exact q1
      · rw [decide_eq_true_iff] at h2
        exact no (by omega)
    · rw [decide_eq_true_iff] at h1
      exact ⟨_, rfl, no (by omega)⟩
/-! ### pieces -/
abbrev sPieces : Stmt := topS 41
abbrev nPieces : List Str := ["_law_phrase", "_law_found", "_law_level", "_law_sign"]
def spPieces : Sp := fun vs H Q _ => ∃ (x : Str), vs = [.str x] ∧ x.length ≤ 5000 ∧ (∀ ps, pieces x = some ps → ∀ a H', Same H H' → H a = none → H' a = some (.lst (ps.map V.str)) → Q (.ref a) H') ∧ (pieces x = none → ∀ H', Same H H' → Q .non H')
theorem pcs_none {cs : List Nat} {i : Nat} {s : PcS} (h : pcs (cs.take i) s = none) : pcs cs s = none := by
  rw [← List.take_append_drop i cs, pcs_app, h]
  rfl
theorem pieces_none {x : Str} {i : Nat} (h : pcs (x.cps.toList.take i) ([], Str.empty, 0) = none) : pieces x = none := by
  unfold pieces
  rw [pcs_none h]
  rfl
theorem sign_eq {c k : Nat} : decide (V.str (ch c) = V.str (ch k)) = decide (c = k) := by
  by_cases h : c = k
  · rw [h, decide_eq_true rfl, decide_eq_true rfl]
  · rw [decide_eq_false h]
    exact decide_eq_false fun z => h (by
      have := congrArg (fun s : Str => s.cps.toList) (V.str.inj z)
      simpa [ch] using this)
theorem set_lastV (xs : List V) (x y : V) : (xs ++ [x]).set xs.length y = xs ++ [y] := by simp
theorem ixN_last (n : Nat) : ixN (n + 1) (-1) = some n := by
  unfold ixN
  rw [if_neg (by omega), if_pos (by omega)]
  congr 1
  omega
theorem scPieces : FnScope nPieces ["_law_phrase"] (defScope sPieces) := ⟨rfl, rfl, rfl, by decide +kernel, rfl, by decide +kernel, by decide +kernel⟩
theorem ok_pieces {f : Addr} {fd : FuncData} (F : Fun K "_law_pieces" "_law_pieces" sPieces f fd) (hint : mg "int" = none) : FnOk P w K mg base C8.CX0 1 f fd ["_law_phrase"] spPieces := by
  refine F.ok scPieces (fun vs H Q E h => ?_) (fun cdv A outer s H vs Q E hr h => ?_)
  · obtain ⟨x, rfl, _⟩ := h
    rfl
  · obtain ⟨x, rfl, hl, kY, kN⟩ := h
    refine ⟨_, pss_cons (ps_par (i := 1) (j := 2) (by rfl) scPieces.nd rfl rfl (by decide) rfl rfl (pa_cons (pe_lst (pa_cons pe_str pa_nil)) (pa_cons pe_int pa_nil)) (by rfl))
      (pss_cons (ps_for PassesOwn.never rfl (pi_str (pv 0)) (pg_name (i := 3) scPieces.nd rfl (Or.inl rfl))
        (pss_cons (ps_set (i := 2) scPieces.nd rfl (by first | exact Or.inl rfl | exact Or.inr rfl) (pe_op op_sub (pe_op op_add (pv 2) (pe_callTy call_int1 (by rfl) hint PyProof.Rows.boot_int (pa_cons (pe_cmpR op_eq (pv 3) pe_str (nomark _)) pa_nil))) (pe_callTy call_int1 (by rfl) hint PyProof.Rows.boot_int (pa_cons (pe_cmpR op_eq (pv 3) pe_str (nomark _)) pa_nil))))
        (pss_cons (ps_if (pt_cmpR op_lt (pv 2) pe_int (nomark _)) (pss_one (ps_ret pe_non)) pss_nil)
        (pss_one (ps_if (PW.pt (pw_and (pt_cmpR op_eq (pv 3) pe_str (nomark _)) (pw_and1 (pt_cmpR op_eq (pv 2) pe_int (nomark _)))))
          (pss_one (ps_expr (pe_bm PySem.F.plainAttrs_list PySem.F.slot_list_append PySem.F.type_list_append mt_append (pv 1) (pa_cons pe_str pa_nil))))
          (pss_one (ps_asg (pe_op op_add_str (pe_ix ix_list (pv 1) (pe_un un_neg pe_int) (fun _ _ => rfl)) (pv 3)) (pg_sub (pv 1) (pe_un un_neg pe_int) set_list))))))))
      (pss_one (ps_ret (pe_ifExp (pt_cmpR op_eq (pv 2) pe_int (nomark _)) (pv 1) pe_non)))), ?_⟩
    refine ⟨(by show 1 ≤ sizeLine; decide), fun F0 hF => ⟨_, _, rfl, ?_⟩⟩
    have s1 := Same.new (o := .lst [.str (Str.ofString "")]) (Same.refl H) hF
    have e0 : (upd H F0 (.lst [.str (Str.ofString "")])) F0 = some (.lst (([] ++ [Str.empty]).map V.str)) := by
      rw [upd_same]
      rfl
    refine ⟨_, rfl, x, rfl, ?_⟩
    refine for_it walk_str (fun i σ H' => ∃ (fs : List Str) (y : Str) (lv : Int) (v3 : Option V), pcs (x.cps.toList.take i) ([], Str.empty, 0) = some (fs, y, lv) ∧ σ = [some (.str x), some (.ref F0), some (.int lv), v3] ∧ H' F0 = some (.lst ((fs ++ [y]).map V.str)) ∧ Same H H' ∧ y.length ≤ i ∧ fs.length ≤ i)
      ⟨[], Str.empty, 0, none, rfl, rfl, e0, s1, Nat.le_refl _, Nat.le_refl _⟩ (fun _ _ _ _ _ => trivial) ?_ ?_
    · rintro i v σ H2 H1 hi ⟨fs, y, lv, v3, ep, rfl, eF, sm, l1, l2⟩ ⟨rfl, c, hc, rfl⟩
      have hc' : x.cps.toList[i]? = some c := by rw [Array.getElem?_toList]; exact hc
      have hi' : i < x.length := hi
      have et : pcs (x.cps.toList.take (i + 1)) ([], Str.empty, 0) = pcst (fs, y, lv) c := by
        rw [take_snoc hc', pcs_app, ep]
        show (pcst (fs, y, lv) c).bind (pcs []) = _
        cases pcst (fs, y, lv) c <;> rfl
      have el : lv + (if decide (V.str (ch c) = V.str (Str.ofString "(")) then 1 else 0) - (if decide (V.str (ch c) = V.str (Str.ofString ")")) then 1 else 0) = lvl lv c := by
        rw [show Str.ofString "(" = ch 40 by decide +kernel, show Str.ofString ")" = ch 41 by decide +kernel, sign_eq, sign_eq]
        unfold lvl
        by_cases h1 : c = 40 <;> by_cases h2 : c = 41 <;> simp [h1, h2]
      refine ⟨_, rfl, _, rfl, rfl, .inr ⟨_, rfl, _, _, rfl, rfl, _, rfl, rfl, .inr ⟨_, rfl, _, _, rfl, rfl, ?_⟩⟩⟩
      refine ⟨_, rfl, _, _, rfl, rfl, _, rfl, ?_⟩
      by_cases hneg : lvl lv c < 0
      · refine iteT_ (decide_eq_true (by rw [← el] at hneg; exact hneg)) ?_
        exact kN (pieces_none (i := i + 1) (by
          rw [et]
          unfold pcst
          simp only
          rw [if_pos hneg])) H1 sm
      · refine iteF_ (fun z => hneg (by rw [← el]; exact of_decide_eq_true z)) ?_
        have fin : ∀ fs' y' H', pcst (fs, y, lv) c = some (fs', y', lvl lv c) → H' F0 = some (.lst ((fs' ++ [y']).map V.str)) → Same H H' → y'.length ≤ i + 1 → fs'.length ≤ i + 1 → ∃ (fs : List Str) (y : Str) (lv0 : Int) (v3 : Option V), pcs (x.cps.toList.take (i + 1)) ([], Str.empty, 0) = some (fs, y, lv0) ∧ [some (V.str x), some (.ref F0), some (.int (lv + (if decide (V.str (ch c) = V.str (Str.ofString "(")) then 1 else 0) - (if decide (V.str (ch c) = V.str (Str.ofString ")")) then 1 else 0))), some (.str (ch c))] = [some (V.str x), some (.ref F0), some (.int lv0), v3] ∧ H' F0 = some (.lst ((fs ++ [y]).map V.str)) ∧ Same H H' ∧ y.length ≤ i + 1 ∧ fs.length ≤ i + 1 :=
          fun fs' y' H' h1 h2 h3 h4 h5 => ⟨fs', y', lvl lv c, some (.str (ch c)), by rw [et, h1], by rw [el], h2, h3, h4, h5⟩
        have app : ¬ (c = 44 ∧ lvl lv c = 0) → ∃ fs' y', pcst (fs, y, lv) c = some (fs', y', lvl lv c) ∧ fs' = fs ∧ y' = y ++ ch c := fun h => ⟨fs, y ++ ch c, by
          unfold pcst
          simp only
          rw [if_neg hneg, if_neg h], rfl, rfl⟩
        have atl : atI ((fs ++ [y]).map V.str) (-1) = some (.str y) := by
          rw [List.map_append]
          exact atI_last _ _
        have lfs : ((fs ++ [y]).map V.str).length = fs.length + 1 := by simp
        have eset : ((fs ++ [y]).map V.str).set fs.length (.str (y ++ ch c)) = (fs ++ [y ++ ch c]).map V.str := by
          rw [List.map_append, List.map_append]
          have := set_lastV (fs.map V.str) (.str y) (.str (y ++ ch c))
          rw [List.length_map] at this
          exact this
        have lc1 : (ch c).length = 1 := rfl
        have ely : (y ++ ch c).length = y.length + 1 := by rw [app_len, lc1]
        refine ⟨_, rfl, rfl, _, rfl, ?_⟩
        by_cases hc44 : c = 44
        · refine iteT_ (by rw [show Str.ofString "," = ch 44 by decide +kernel]; exact decide_eq_true (by rw [hc44]; rfl)) ?_
          refine ⟨_, rfl, rfl, _, rfl, ?_⟩
          by_cases hl0 : lvl lv c = 0
          · refine iteT_ (vint_eq (by rw [← el] at hl0; exact hl0)) ?_
            refine ⟨_, rfl, .inl ⟨rfl, _, SqL.of eF⟩, F0, _, _, rfl, rfl, eF, by rw [lfs, sizeLine_eq]; omega, ?_⟩
            refine fin (fs ++ [y]) Str.empty _ ?_ ?_ (same_J (H := H) hF _ _ _ sm eF) (Nat.zero_le _) (by rw [List.length_append]; simp; omega)
            · unfold pcst
              simp only
              rw [if_neg hneg, if_pos ⟨hc44, hl0⟩]
            · rw [upd_same, List.map_append (l₁ := fs ++ [y])]
              rfl
          · refine iteF_ (vint_ne (fun z => hl0 (by rw [← el]; exact z))) ?_
            obtain ⟨fs', y', h1, rfl, rfl⟩ := app fun z => hl0 z.2
            refine ⟨_, rfl, _, rfl, F0, _, _, _, rfl, rfl, SqL.of eF, atl, _, rfl, _, _, rfl, rfl, by show y.length + 1 ≤ sizeLine; rw [sizeLine_eq]; omega, _, rfl, _, rfl, F0, _, _, _, rfl, rfl, eF, by rw [lfs]; exact ixN_last _, ?_⟩
            exact fin _ _ _ h1 (by rw [upd_same]; exact congrArg (fun l => some (HO.lst l)) eset) (same_J (H := H) hF _ _ _ sm eF) (by omega) (by omega)
        · refine iteF_ (by rw [show Str.ofString "," = ch 44 by decide +kernel]; show ¬ decide (V.str (ch c) = V.str (ch 44)) = true; rw [sign_eq]; simpa using hc44) (iteF_ Bool.false_ne_true ?_)
          obtain ⟨fs', y', h1, rfl, rfl⟩ := app fun z => hc44 z.1
          refine ⟨_, rfl, _, rfl, F0, _, _, _, rfl, rfl, SqL.of eF, atl, _, rfl, _, _, rfl, rfl, by show y.length + 1 ≤ sizeLine; rw [sizeLine_eq]; omega, _, rfl, _, rfl, F0, _, _, _, rfl, rfl, eF, by rw [lfs]; exact ixN_last _, ?_⟩
          exact fin _ _ _ h1 (by rw [upd_same]; exact congrArg (fun l => some (HO.lst l)) eset) (same_J (H := H) hF _ _ _ sm eF) (by omega) (by omega)
    · rintro σ H1 ⟨fs, y, lv, v3, ep, rfl, eF, sm, l1, l2⟩
      have e : pieces x = if lv = 0 then some (fs ++ [y]) else none := by
        unfold pieces
        rw [show x.cps.size = x.cps.toList.length from rfl, List.take_length] at ep
        rw [ep]
        rfl
      refine ⟨_, rfl, rfl, _, rfl, ?_⟩
      by_cases hv : lv = 0
      · rw [if_pos hv] at e
        exact iteT_ (vint_eq hv) ⟨_, rfl, kY _ e F0 H1 sm hF eF⟩
      · rw [if_neg hv] at e
        exact iteF_ (vint_ne hv) (kN e H1 sm)
end
end K1
set_option Elab.async false
set_option linter.all false
set_option maxRecDepth 100000
set_option maxHeartbeats 4000000
namespace K1
open PySem PySem.Spec PyProof.Rows L2
open PySem.W (EachIs)
abbrev sRead : Stmt := topS 42
abbrev nRead : List Str := ["_law_phrase", "_law_within", "_law_left", "_law_word", "_law_sign", "_law_inner", "_law_forms", "_law_words_here", "_law_good", "_law_pieces_here", "_law_found", "_law_one", "_law_piece"]
theorem scRead : FnScope nRead ["_law_phrase", "_law_within", "_law_left"] (defScope sRead) := ⟨rfl, rfl, rfl, by decide +kernel, rfl, by decide +kernel, by decide +kernel⟩
/-! ### the reading, case by case -/
section
variable {l : Nat} {x wd sg inn : Str} {k : Int}
theorem rl_0 : rl 0 x k = (none, k - 1) := rfl
theorem rl_neg (h : k - 1 < 0) : rl l x k = (none, k - 1) := by
  cases l with
  | zero => rfl
  | succ l => unfold rl; rw [if_pos h]
theorem rl_nos (hp : Txt.partition x oP = (wd, sg, inn)) (h : ¬ k - 1 < 0) (hs : sg = Str.empty) : rl (l + 1) x k = (if ar wd = some 0 then some (.t [.s wd]) else none, k - 1) := by
  unfold rl
  rw [if_neg h, hp]
  simp only
  rw [if_pos hs]
theorem rl_noe (hp : Txt.partition x oP = (wd, sg, inn)) (h : ¬ k - 1 < 0) (hs : sg ≠ Str.empty) (he : endsB inn = false) : rl (l + 1) x k = (none, k - 1) := by
  unfold rl
  rw [if_neg h, hp]
  simp only
  rw [if_neg hs, if_pos he]
theorem rl_nop (hp : Txt.partition x oP = (wd, sg, inn)) (h : ¬ k - 1 < 0) (hs : sg ≠ Str.empty) (he : endsB inn = true) (hpc : pieces (initS inn) = none) : rl (l + 1) x k = (none, k - 1) := by
  unfold rl
  rw [if_neg h, hp]
  simp only
  rw [if_neg hs, if_neg (by rw [he]; decide), hpc]
theorem rl_lf {ps : List Str} (hp : Txt.partition x oP = (wd, sg, inn)) (h : ¬ k - 1 < 0) (hs : sg ≠ Str.empty) (he : endsB inn = true) (hpc : pieces (initS inn) = some ps) (hw : wd = tuW ∨ wd = plW) : rl (l + 1) x k = (if leafB wd (initS inn) = true then some (.t [.s wd, .s (initS inn)]) else none, k - 1) := by
  unfold rl
  rw [if_neg h, hp]
  simp only
  rw [if_neg hs, if_neg (by rw [he]; decide), hpc]
  simp only
  rw [if_pos hw]
theorem rl_bad {ps : List Str} (hp : Txt.partition x oP = (wd, sg, inn)) (h : ¬ k - 1 < 0) (hs : sg ≠ Str.empty) (he : endsB inn = true) (hpc : pieces (initS inn) = some ps) (hw : ¬ (wd = tuW ∨ wd = plW)) (ha : ar wd ≠ some ps.length) : rl (l + 1) x k = (none, k - 1) := by
  unfold rl
  rw [if_neg h, hp]
  simp only
  rw [if_neg hs, if_neg (by rw [he]; decide), hpc]
  simp only
  rw [if_neg hw, if_neg ha]
theorem rl_rec {ps : List Str} (hp : Txt.partition x oP = (wd, sg, inn)) (h : ¬ k - 1 < 0) (hs : sg ≠ Str.empty) (he : endsB inn = true) (hpc : pieces (initS inn) = some ps) (hw : ¬ (wd = tuW ∨ wd = plW)) (ha : ar wd = some ps.length) : rl (l + 1) x k = ((allS (rlAll (rl l) ps (k - 1)).1).map fun gs => .t (.s wd :: gs), (rlAll (rl l) ps (k - 1)).2) := by
  conv => lhs; unfold rl
  rw [if_neg h, hp]
  simp only
  rw [if_neg hs, if_neg (by rw [he]; decide), hpc]
  simp only
  rw [if_neg hw, if_pos ha]
end
theorem rlAll_app (f : Str → Int → Option G × Int) (p : Str) : ∀ (ps : List Str) (n : Int), rlAll f (ps ++ [p]) n = ((rlAll f ps n).1 ++ [(f p (rlAll f ps n).2).1], (f p (rlAll f ps n).2).2)
  | [], n => rfl
  | a :: ps, n => by
    show ((f a n).1 :: (rlAll f (ps ++ [p]) (f a n).2).1, (rlAll f (ps ++ [p]) (f a n).2).2) = _
    rw [rlAll_app f p ps]
    rfl
theorem rlAll_len (f : Str → Int → Option G × Int) : ∀ (ps : List Str) (n : Int), (rlAll f ps n).1.length = ps.length
  | [], n => rfl
  | a :: ps, n => by
    show (rlAll f ps (f a n).2).1.length + 1 = ps.length + 1
    rw [rlAll_len f ps]
theorem allS_none : ∀ {rs : List (Option G)}, allS rs = none → none ∈ rs
  | [], h => by cases h
  | none :: _, _ => List.mem_cons_self
  | some g :: r, h => by
    refine List.mem_cons_of_mem _ (allS_none ?_)
    cases e : allS r with
    | none => rfl
    | some t =>
      have : (allS r).map (g :: ·) = none := h
      rw [e] at this
      cases this
/-! ### cut texts -/
theorem cut_init (x : Str) : cutS x none (some (-1)) = initS x := by
  have e1 : HT.sIx x.length 0 (none : Option Int) = 0 := rfl
  have e2 : HT.sIx x.length x.length (some (-1)) = x.length - 1 := by
    show (if (-1 : Int) < 0 then ((-1 : Int) + (x.length : Int)).toNat else min (-1 : Int).toNat x.length) = _
    rw [if_pos (by decide)]
    omega
  show (⟨((x.cps.toList.drop (HT.sIx x.length 0 none)).take (HT.sIx x.length x.length (some (-1)) - HT.sIx x.length 0 none)).toArray⟩ : Str) = _
  rw [e1, e2, List.drop_zero, Nat.sub_zero, ← len_toList, ← List.dropLast_eq_take]
  rfl
theorem cut_end (x : Str) : decide (V.str (cutS x (some (-1)) none) = V.str cP) = endsB x := by
  have e1 : HT.sIx x.length x.length (none : Option Int) = x.length := rfl
  have e2 : HT.sIx x.length 0 (some (-1)) = x.length - 1 := by
    show (if (-1 : Int) < 0 then ((-1 : Int) + (x.length : Int)).toNat else min (-1 : Int).toNat x.length) = _
    rw [if_pos (by decide)]
    omega
  have e : cutS x (some (-1)) none = ⟨(x.cps.toList.drop (x.cps.toList.length - 1)).toArray⟩ := by
    show (⟨((x.cps.toList.drop (HT.sIx x.length 0 (some (-1)))).take (HT.sIx x.length x.length none - HT.sIx x.length 0 (some (-1)))).toArray⟩ : Str) = _
    rw [e1, e2, ← len_toList, List.take_of_length_le (by rw [List.length_drop]; omega)]
  rw [e]
  unfold endsB
  rw [show cP = ch 41 by decide +kernel]
  cases hl : x.cps.toList.getLast? with
  | none =>
    have : x.cps.toList = [] := List.getLast?_eq_none_iff.mp hl
    rw [this]
    decide
  | some c =>
    obtain ⟨ys, hy⟩ := List.getLast?_eq_some_iff.mp hl
    rw [hy]
    have : (ys ++ [c]).drop ((ys ++ [c]).length - 1) = [c] := by simp
    rw [this]
    show decide (V.str (ch c) = V.str (ch 41)) = _
    rw [sign_eq]
    by_cases h : c = 41 <;> simp [h]
theorem tx_init {x : Str} (h : txB x = true) : txB (initS x) = true := tx_sub h (by show x.cps.toList.dropLast.length ≤ _; rw [List.length_dropLast]; omega) fun c hc => List.dropLast_subset _ hc
theorem tx_part {x : Str} (h : txB x = true) : txB (Txt.partition x oP).1 = true ∧ txB (Txt.partition x oP).2.2 = true := by
  rcases part_cases x with ⟨_, e⟩ | ⟨a, b, _, ex, e⟩
  · rw [e]
    exact ⟨h, by show txB Str.empty = true; decide +kernel⟩
  · rw [e]
    have ea : x.cps.toList = a.cps.toList ++ (oP.cps.toList ++ b.cps.toList) := by rw [ex, app_l, app_l, List.append_assoc]
    refine ⟨tx_sub (y := a) h (by rw [ea, List.length_append]; omega) fun c hc => by rw [ea]; exact List.mem_append_left _ hc, tx_sub (y := b) h (by rw [ea, List.length_append, List.length_append]; omega) fun c hc => by rw [ea]; exact List.mem_append_right _ (List.mem_append_right _ hc)⟩
theorem tx_pieces {x : Str} {ps : List Str} (h : txB x = true) (hp : pieces x = some ps) : (∀ p ∈ ps, txB p = true) ∧ ps.length ≤ 1001 ∧ 1 ≤ ps.length := by
  obtain ⟨hne, hj⟩ := pieces_join hp
  have ej : jn ps = x.cps.toList := by rw [← jn_join _ hne, hj]
  refine ⟨fun p hm => ?_, ?_, List.length_pos_iff.mpr hne⟩
  · obtain ⟨h1, h2⟩ := jn_mem ps p hm
    rw [ej] at h1
    exact tx_sub h h1 fun c hc => by rw [← ej]; exact h2 c hc
  · have key : ∀ ws : List Str, ws.length ≤ (jn ws).length + 1 := fun ws => by
      induction ws with
      | nil => simp
      | cons a r ih =>
        cases r with
        | nil => simp
        | cons b r =>
          show _ ≤ (a.cps.toList ++ 44 :: jn (b :: r)).length + 1
          rw [List.length_append, List.length_cons]
          simp only [List.length_cons] at ih ⊢
          omega
    have := key ps
    rw [ej, len_toList] at this
    have := (tx_ok h).1
    omega
/-! ### the dict of forms -/
def arK : List (Key × V) := arL.map fun p => (.inr p.1, .int p.2)
theorem val_ar (w : Str) : valV arK (.inr w) = (ar w).map fun n => .int n := by
  unfold arK ar
  generalize arL = l
  induction l with
  | nil => rfl
  | cons a l ih =>
    obtain ⟨z, n⟩ := a
    rw [List.map_cons, List.lookup_cons]
    by_cases h : w = z
    · subst h
      rw [valV_pos rfl, beq_self_eq_true]
      rfl
    · rw [valV_neg (fun q => h (Sum.inr.inj q).symm), ih]
      have : (w == z) = false := by simpa using h
      rw [this]
theorem merge_ar : mergeK [] arK = arK := by decide +kernel
/-! ### the heap but for one list -/
def Xs (f : Addr) (H H' : Hp) : Prop := ∀ b o, b ≠ f → H b = some o → H' b = some o
theorem Xs.refl {f : Addr} {H : Hp} : Xs f H H := fun _ _ _ h => h
theorem Xs.trans {f : Addr} {H H1 H2 : Hp} (a : Xs f H H1) (b : Xs f H1 H2) : Xs f H H2 := fun x o h e => b x o h (a x o h e)
theorem Xs.of {f : Addr} {H H1 : Hp} (a : Same H H1) : Xs f H H1 := fun x o _ e => a x o e
theorem Xs.tk {f : Addr} {H H' : Hp} {xs : List V} (h : H f = some (.lst xs)) (a : Xs f H H') : TupK H H' := fun b o e k => a b o (fun z => by
  rw [z, h] at e
  cases e
  rcases k with ⟨_, z⟩ | ⟨_, _, z⟩ <;> cases z) e
theorem Xs.free {f a : Addr} {H H' : Hp} {o : HO} (x : Xs f H H') (hf : H f = some o) (hf' : ∃ o', H' f = some o') (h : H' a = none) : H a = none := by
  cases e : H a with
  | none => rfl
  | some u =>
    by_cases q : a = f
    · obtain ⟨o', hf'⟩ := hf'
      rw [q, hf'] at h
      cases h
    · rw [x a u q e] at h
      cases h
def oG : Option G → G
  | some p => p
  | none => .o .none
def spLR (K : PySem.W.Frag) (n : Nat) : Sp := fun vs H Q _ => ∃ (x : Str) (i : Int) (l : Nat) (k : Int) (lf : Addr), vs = [.str x, .int i, .ref lf] ∧ i = 13 - l ∧ l ≤ n ∧ n ≤ 12 ∧ H lf = some (.lst [.int k]) ∧ txB x = true ∧
  ∀ v H', Xs lf H H' → H' lf = some (.lst [.int (rl l x k).2]) → In K H' v (oG (rl l x k).1) → Q v H'
/-- what is read is fit -/
theorem rl_gd {l : Nat} {x : Str} {k : Int} (hl : l ≤ 12) (h : txB x = true) : gd (oG (rl l x k).1) = true ∧ dp (oG (rl l x k).1) ≤ 13 := by
  cases e : (rl l x k).1 with
  | none => exact ⟨gd_non, by simp [oG, dp]⟩
  | some p =>
    obtain ⟨a1, a2, _⟩ := rl_ok l x k p (rl l x k).2 (Prod.ext e rfl)
    have := gd_plan l p a1 (by rw [a2]; exact h)
    exact ⟨this.1, by show dp p ≤ 13; omega⟩
end K1
set_option Elab.async false
set_option linter.all false
set_option maxRecDepth 100000
set_option maxHeartbeats 4000000
namespace K1
open PySem PySem.Spec PyProof.Rows L2
open PySem.W (EachIs)
theorem ar_tu {w : Str} {n : Nat} (h : ar w = some n) : ¬ (w = tuW ∨ w = plW) := fun z => by rw [ar_leaf z] at h; cases h
theorem two_at (wd : Str) : inV (.str wd) [.str (Str.ofString "turn"), .str (Str.ofString "plan")] = decide (wd = tuW ∨ wd = plW) := by
  show inV (.str wd) (([tuW, plW] : List Str).map V.str) = _
  rw [inV_str]
  simp
theorem dots_nm (y : Str) : leafB plW y = nameB y := by
  unfold leafB
  rw [decide_eq_false (show ¬ plW = tuW by decide +kernel), decide_eq_true rfl]
  rfl
theorem dots_tu (y : Str) : leafB tuW y = titleB y := by
  unfold leafB
  rw [decide_eq_false (show ¬ tuW = plW by decide +kernel), decide_eq_true rfl]
  simp
/-- the law's own test of what stands in turn and plan -/
theorem good_leaf {wd y : Str} (hw : wd = tuW ∨ wd = plW) : (((dots y).all nameB) && decide ((dots y).length < (if decide (wd = tuW) = true then 3 else 2))) = leafB wd y := by
  rcases hw with rfl | rfl
  · rw [dots_tu]
    unfold titleB
    rw [decide_eq_true rfl, if_pos rfl, Bool.and_comm]
    congr 1
    exact decide_eq_decide.mpr (by omega)
  · rw [dots_nm, decide_eq_false (show ¬ plW = tuW by decide +kernel), if_neg Bool.false_ne_true]
    have h1 := dots_pos y
    cases hn : nameB y with
    | true =>
      rw [dots_name hn]
      simp [hn]
    | false =>
      rw [Bool.eq_false_iff]
      intro h
      rw [Bool.and_eq_true, decide_eq_true_iff, List.all_eq_true] at h
      obtain ⟨a, ha⟩ : ∃ a, dots y = [a] := by
        cases e : dots y with
        | nil => rw [e] at h1; simp at h1
        | cons a r =>
          cases r with
          | nil => exact ⟨a, rfl⟩
          | cons b r => rw [e] at h; exact absurd h.2 (by simp)
      have h46 := name_dot (h.1 a (by rw [ha]; simp))
      have : y = a := by
        have e := dots_eq y
        rw [ha] at e
        by_cases hm : 46 ∈ y.cps.toList
        · exfalso
          obtain ⟨as, bs, ey, hn2⟩ := List.eq_append_cons_of_mem hm
          rw [ey, show as ++ 46 :: bs = as ++ (46 :: [] ++ bs) by simp, TL.spl_part1 (s := 46) (S := []) (p := as) (rest := bs) (acc := []) hn2] at e
          have e3 := dots_pos (⟨bs.toArray⟩ : Str)
          rw [dots_eq] at e3
          have := congrArg List.length e
          simp only [List.length_cons, List.length_nil, List.length_map] at this e3
          omega
        · rw [TL.spl_last1 hm] at e
          have := (List.cons.inj e).1
          rw [this, List.nil_append]
      rw [← this] at ha
      have := h.1 y (by rw [ha]; simp)
      rw [hn] at this
      cases this
theorem none_any {l : Nat} {rs : List (Option G)} (h : ∀ r ∈ rs, ∀ p, r = some p → planB l p = true) : ((rs.map oG).map toD).any (fun z => PyData.eqv z .none) = rs.any Option.isNone := by
  induction rs with
  | nil => rfl
  | cons r rs ih =>
    rw [List.map_cons, List.map_cons, List.any_cons, List.any_cons, ih fun q hq => h q (List.mem_cons_of_mem _ hq)]
    congr 1
    cases r with
    | none =>
      show PyData.eqv (toD (.o .none)) .none = true
      rw [toD]
      decide +kernel
    | some p =>
      obtain ⟨_, _, ps, _, rfl, _⟩ := planB_cases (h (some p) List.mem_cons_self p rfl)
      show PyData.eqv (toD (.t _)) .none = false
      rw [toD]
      rfl
theorem allS_isNone {rs : List (Option G)} : rs.any Option.isNone = (allS rs).isNone := by
  induction rs with
  | nil => rfl
  | cons r rs ih =>
    cases r with
    | none => rfl
    | some g =>
      rw [List.any_cons, ih]
      show (false || (allS rs).isNone) = ((allS rs).map (g :: ·)).isNone
      cases allS rs <;> rfl
theorem each_list {K : PySem.W.Frag} {H : Hp} : ∀ {ys : List V} {rs : List (Option G)}, EachIs (fun y r => In K H y (oG r)) ys rs → InL K H ys (rs.map oG)
  | _, _, .nil => .nil
  | _, _, .cons h t => .cons h (each_list t)
theorem each_mem {R : V → Option G → Prop} : ∀ {ys : List V} {rs : List (Option G)}, EachIs R ys rs → EachIs (fun y r => r ∈ rs ∧ R y r) ys rs
  | _, _, .nil => .nil
  | _, _, .cons h t => .cons ⟨List.mem_cons_self, h⟩ ((each_mem t).mono fun _ _ q => ⟨List.mem_cons_of_mem _ q.1, q.2⟩)
theorem rlAll_mem {l : Nat} : ∀ (ps : List Str) (n : Int) (r : Option G), r ∈ (rlAll (rl l) ps n).1 → ∃ p ∈ ps, ∃ m, r = (rl l p m).1
  | [], n, r, h => by cases h
  | a :: ps, n, r, h => by
    rcases List.mem_cons.mp h with rfl | h
    · exact ⟨a, List.mem_cons_self, n, rfl⟩
    · obtain ⟨p, hp, m, e⟩ := rlAll_mem ps _ r h
      exact ⟨p, List.mem_cons_of_mem _ hp, m, e⟩
section
variable {P : Program} {w : World} {K : PySem.W.Frag} {mg : Str → Option Value} {base : Heap}
theorem ok_read {f : Addr} {fd : FuncData} {n m : Nat} {spI : Sp} (F : Fun K "_law_read" "_law_read" sRead f fd) (IH : Df P w K mg base C8.CX0 "_law_read" m ["_law_phrase", "_law_within", "_law_left"] spI)
    (hI : ∀ l, l + 1 ≤ n → ∀ vs H Q E, (∃ (x : Str) (i : Int) (k : Int) (lf : Addr), vs = [.str x, .int i, .ref lf] ∧ i = 13 - l ∧ H lf = some (.lst [.int k]) ∧ txB x = true ∧ ∀ v H', Xs lf H H' → H' lf = some (.lst [.int (rl l x k).2]) → In K H' v (oG (rl l x k).1) → Q v H') → spI vs H Q E)
    (DN : Df P w K mg base C8.CX0 "_law_is_name" 1 ["_law_word"] spLName) (DP : Df P w K mg base C8.CX0 "_law_pieces" 1 ["_law_phrase"] spPieces) (T : Ct mg) (hm : 1 ≤ m) :
    FnOk P w K mg base C8.CX0 (m + 1) f fd ["_law_phrase", "_law_within", "_law_left"] (spLR K n) := by
  refine F.ok scRead (fun vs H Q E h => ?_) (fun cdv A outer s H vs Q E hr h => ?_)
  · obtain ⟨x, i, l, k, lf, rfl, _⟩ := h
    rfl
  · obtain ⟨x, i, l, k, lf, rfl, hi, hl, h12, elf, hx, kk⟩ := h
    have hr1 : Room 1 _ := hr.mono hm
    have hu := units10 hr
    have hu' := hu_of hr
    have hu65 := units65 hr
    refine ⟨_, pss_cons (ps_asg (pe_op op_sub (pe_ix ix_list (pv 2) pe_int (fun _ _ => rfl)) pe_int) (pg_sub (pv 2) pe_int set_list))
      (pss_cons (ps_asg (pe_partition (pv 0) pe_str) (pg_tup rfl (pgs_cons (pg_name (i := 3) scRead.nd rfl (by first | exact Or.inl rfl | exact Or.inr rfl)) (pgs_cons (pg_name (i := 4) scRead.nd rfl (by first | exact Or.inl rfl | exact Or.inr rfl)) (pgs_cons (pg_name (i := 5) scRead.nd rfl (by first | exact Or.inl rfl | exact Or.inr rfl)) pgs_nil)))))
      (C8.pss_cut (ps_set (i := 6) scRead.nd rfl (by first | exact Or.inl rfl | exact Or.inr rfl) (pe_disp (pps_cons pe_str pe_int (pps_cons pe_str pe_int (pps_cons pe_str pe_int (pps_cons pe_str pe_int (pps_cons pe_str pe_int (pps_cons pe_str pe_int (pps_cons pe_str pe_int (pps_cons pe_str pe_int (pps_cons pe_str pe_int pps_nil))))))))) (by rfl) (by rfl) (fun z => by cases z) (by decide)))
      (pss_cons (ps_if (PW.pt (pw_or (pt_cmpR op_lt (pe_ix ix_list (pv 2) pe_int (fun _ _ => rfl)) pe_int (nomark _)) (pw_or1 (pt_cmpR op_gt (pv 1) pe_int (nomark _))))) (pss_one (ps_ret pe_non)) pss_nil)
      (pss_cons (ps_if (pt_cmpR op_eq (pv 4) pe_str (nomark _)) (pss_one (ps_ret (pe_ifExp (pt_cmpR op_eq (pe_dget2 hu' (pv 6) (pv 3) pe_int ⟨rfl, rfl, rfl, rfl⟩) pe_int (nomark _)) (pe_tup (pa_cons (pv 3) pa_nil)) pe_non))) pss_nil)
      (C8.pss_cut (ps_if (PW.pt (pw_or (pt_cmpR op_ne (pe_slice sl_str (pv 5) (po_some (pe_un un_neg pe_int)) po_none) pe_str (nomark _)) (pw_or1 (pt_cmp (pc_isN (pe_df DP hr1 pass0 (pa_cons (pe_slice sl_str (pv 5) po_none (po_some (pe_un un_neg pe_int))) pa_nil))))))) (pss_one (ps_ret pe_non)) pss_nil)
      (C8.pss_cut (ps_if (pt_cmpR op_in_seq (pv 3) (pe_tup (pa_cons pe_str (pa_cons pe_str pa_nil))) (by rfl))
        (pss_cons (ps_set (i := 7) scRead.nd rfl (by first | exact Or.inl rfl | exact Or.inr rfl) (pe_split (pe_slice sl_str (pv 5) po_none (po_some (pe_un un_neg pe_int))) pe_str))
        (pss_cons (ps_set (i := 8) scRead.nd rfl (by first | exact Or.inl rfl | exact Or.inr rfl) (pe_and (pe_cmpR (SrtF.op_eqNil hu) (pe_lc (own := [("_law_one", 11)]) (g := gName 11) (tt := tNot (tB (tCall spLName [] C8.E0 (tCons (tVar 11) tNil)))) rfl scRead.nd (pi_list (pv 7)) (blkOk_by (N := nRead) (sc := defScope sRead) (by decide +kernel)) (fun _ _ _ _ _ => pg_name (i := 11) scRead.nd rfl (Or.inl rfl)) (fun _ _ _ _ _ => pts_one (pt_not (pt_val (pe_df DN hr1 pass0 (pa_cons (pv 11) pa_nil)))))
            (fun _ _ _ _ _ => pv 11)) (pe_lst pa_nil) (nomark _))
          (pe_one (pe_cmpR op_lt (pe_callB call_len_seq (by rfl) T.len PySem.boot_len (pa_cons (pv 7) pa_nil)) (pe_ifExp (pt_cmpR op_eq (pv 3) pe_str (nomark _)) pe_int pe_int) (nomark _)))))
        (pss_one (ps_ret (pe_ifExp (pt_val (pv 8)) (pe_tup (pa_cons (pv 3) (pa_cons (pe_slice sl_str (pv 5) po_none (po_some (pe_un un_neg pe_int))) pa_nil))) pe_non))))) pss_nil)
      (pss_cons (ps_set (i := 9) scRead.nd rfl (by first | exact Or.inl rfl | exact Or.inr rfl) (pe_df DP hr1 pass0 (pa_cons (pe_slice sl_str (pv 5) po_none (po_some (pe_un un_neg pe_int))) pa_nil)))
      (pss_cons (ps_if (PW.pt (pw_or (pt_cmpR op_ne (pe_dget2 hu' (pv 6) (pv 3) pe_int ⟨rfl, rfl, rfl, rfl⟩) (pe_callB call_len_seq (by rfl) T.len PySem.boot_len (pa_cons (pv 9) pa_nil)) (nomark _)) (pw_or1 (pt_cmp (pc_dnotin hu' (pv 3) (pv 6)))))) (pss_one (ps_ret pe_non)) pss_nil)
      (pss_cons (ps_setLc (i := 10) (own := [("_law_piece", 12)]) (g := gName 12) (tt := tYes) rfl scRead.nd rfl rfl (sw_true rfl rfl rfl (by decide +kernel)) (pi_list (pv 9)) (blkOk_by (N := nRead) (sc := defScope sRead) (by decide +kernel)) (fun _ _ _ _ _ => pg_name (i := 12) scRead.nd rfl (Or.inl rfl)) (fun _ _ _ _ _ => pts_nil)
        (fun _ _ _ _ _ => pe_df IH hr pass0 (pa_cons (pv 12) (pa_cons (pe_op op_add (pv 1) pe_int) (pa_cons (pv 2) pa_nil))) (Nat.le_refl _)))
      (pss_one (ps_ret (pe_ifExp (pt_cmpR (op_notInD hu65) pe_non (pv 10) (by rfl)) (pe_op op_catT (pe_tup (pa_cons (pv 3) pa_nil)) (pe_callTy call_tuple_of (by rfl) T.tuple boot_tuple (pa_cons (pv 10) pa_nil))) pe_non)))))))))))), ?_⟩
    have at0 : atI [V.int k] 0 = some (.int k) := rfl
    refine ⟨_, rfl, lf, _, 0, _, rfl, rfl, SqL.of elf, at0, _, _, rfl, rfl, _, rfl, lf, _, 0, 0, rfl, rfl, elf, rfl, ?_⟩
    have x1 : Xs lf H (upd H lf (.lst ([V.int k].set 0 (.int (k - 1))))) := fun b o hb e => by rw [upd_ne hb]; exact e
    have e1 : (upd H lf (.lst ([V.int k].set 0 (.int (k - 1))))) lf = some (.lst [.int (k - 1)]) := upd_same
    generalize upd H lf (.lst ([V.int k].set 0 (.int (k - 1)))) = H1 at x1 e1
    have hxl := (tx_ok hx).1
    obtain ⟨wd, sg, inn, hp⟩ : ∃ wd sg inn, Txt.partition x oP = (wd, sg, inn) := ⟨_, _, _, rfl⟩
    obtain ⟨tw, ti⟩ := tx_part hx
    rw [hp] at tw ti
    change txB wd = true at tw
    change txB inn = true at ti
    refine ⟨_, rfl, ⟨_, rfl⟩, x, oP, rfl, rfl, (by decide +kernel), by rw [sizeLine_eq]; omega, fun q hq => ?_⟩
    rw [hp]
    refine ⟨q, _, rfl, SqT.of upd_same, rfl, _, _, rfl, _, _, rfl, _, _, rfl, rfl, ?_⟩
    have sq := Same.new (o := .tup [.str wd, .str sg, .str inn]) (Same.refl H1) hq
    generalize upd H1 q (.tup [.str wd, .str sg, .str inn]) = H2 at sq
    have e2 := sq _ _ e1
    have x2 := x1.trans (Xs.of sq)
    refine ⟨fun σ' H3 => ∃ Fm, σ' = [some (.str x), some (.int i), some (.ref lf), some (.str wd), some (.str sg), some (.str inn), some (.ref Fm), none, none, none, none, none, none] ∧ Same H2 H3 ∧ H3 Fm = some (.dK arK), ?_, ?_⟩
    · intro p hp'
      refine ⟨upd_same, arK, rfl, (by decide), p, rfl, fun b o e => ?_, ?_⟩
      · rw [upd_ne (ne_of_none e hp'), upd_ne (ne_of_none e hp')]
        exact e
      · rw [upd_same, merge_ar]
    · rintro σ' H3 ⟨Fm, rfl, s3, eF⟩
      have e3 := s3 _ _ e2
      have x3 := x2.trans (Xs.of s3)
      have sl : ∀ z : Str, txB z = true → z.length ≤ sizeLine := fun z hz => by have := (tx_ok hz).1; rw [sizeLine_eq]; omega
      have fin0 : ∀ H', Same H3 H' → rl l x k = (none, k - 1) → Q .non H' := fun H' sm e => kk .non H' (x3.trans (Xs.of sm)) (by rw [e]; exact sm _ _ e3) (by rw [e]; exact .non)
      have dget : ∀ H' (o : Option V), Same H3 H' → ((ar wd).map fun n : Nat => V.int (n : Int)) = o → DGet H' Fm (.str wd) o := fun H' o sm e => by
        have := DGet.k (k := (Sum.inr wd : Key)) (sm _ _ eF)
        rw [val_ar, e] at this
        exact this
      refine ⟨_, rfl, lf, _, 0, _, rfl, rfl, SqL.of e3, (rfl : atI [V.int (k - 1)] 0 = some (.int (k - 1))), _, _, rfl, rfl, _, rfl, ?_⟩
      by_cases h0 : k - 1 < 0
      · exact iteT_ (decide_eq_true h0) (iteT_ rfl (fin0 H3 (Same.refl H3) (rl_neg h0)))
      refine iteF_ (fun z => h0 (of_decide_eq_true z)) ?_
      refine ⟨_, rfl, _, _, rfl, rfl, _, rfl, ?_⟩
      cases l with
      | zero => exact iteT_ (decide_eq_true (by omega)) (fin0 H3 (Same.refl H3) rl_0)
      | succ l =>
      refine iteF_ (fun z => by have := of_decide_eq_true z; omega) ?_
      refine ⟨_, rfl, rfl, _, rfl, ?_⟩
      by_cases hs : sg = Str.empty
      · refine iteT_ (by rw [hs]; decide +kernel) ?_
        have er := rl_nos (l := l) hp h0 hs
        cases ha : ar wd with
        | none =>
          refine ⟨_, rfl, Fm, rfl, .inl ⟨arK, .inl eF⟩, _, rfl, none, dget H3 _ (Same.refl H3) (by rw [ha]; rfl), rfl, _, rfl, ?_⟩
          refine iteF_ (by decide) (fin0 H3 (Same.refl H3) ?_)
          rw [er, ha, if_neg (by decide)]
        | some nn =>
          refine ⟨_, rfl, Fm, rfl, .inl ⟨arK, .inl eF⟩, _, rfl, some (.int nn), dget H3 _ (Same.refl H3) (by rw [ha]; rfl), rfl, _, rfl, ?_⟩
          by_cases hn : nn = 0
          · subst hn
            refine iteT_ (vint_eq rfl) ⟨_, rfl, (by show 1 ≤ sizeLine; decide), fun z hz => ?_⟩
            have sz := Same.new (o := .tup [.str wd]) (Same.refl H3) hz
            rw [ha, if_pos rfl] at er
            refine kk (.ref z) _ (x3.trans (Xs.of sz)) (by rw [er]; exact sz _ _ e3) ?_
            rw [er]
            exact .t (SqT.of upd_same) (.cons (.s wd) .nil)
          · refine iteF_ (vint_ne (by omega)) (fin0 H3 (Same.refl H3) ?_)
            rw [er, ha, if_neg (by simp [hn])]
      refine iteF_ (by rw [str_ne (fun z => hs (by rw [z]; rfl))]; exact Bool.false_ne_true) ?_
      refine ⟨fun σ' H4 => σ' = [some (.str x), some (.int i), some (.ref lf), some (.str wd), some (.str sg), some (.str inn), some (.ref Fm), none, none, none, none, none, none] ∧ Same H3 H4 ∧ endsB inn = true ∧ ∃ ps, pieces (initS inn) = some ps, ?_, ?_⟩
      · refine ⟨_, rfl, _, rfl, _, rfl, inn, rfl, sl _ ti, rfl, _, rfl, ?_⟩
        have ec := cut_end inn
        cases he : endsB inn with
        | false =>
          refine iteT_ (by rw [show Str.ofString ")" = cP from rfl, ec, he]; rfl) (iteT_ rfl ?_)
          exact fin0 H3 (Same.refl H3) (rl_noe hp h0 hs he)
        | true =>
          refine iteF_ (by rw [show Str.ofString ")" = cP from rfl, ec, he]; exact Bool.false_ne_true) ?_
          refine ⟨_, rfl, _, rfl, _, rfl, inn, rfl, sl _ ti, initS inn, (by show [V.str (cutS inn none (some (-1)))] = _; rw [cut_init]), by have := (tx_ok (tx_init ti)).1; omega, fun ps hps a H4 s4 _ _ => ?_, fun hn H4 s4 => ?_⟩
          · exact ⟨_, rfl, iteF_ Bool.false_ne_true ⟨rfl, s4, rfl, ps, hps⟩⟩
          · exact ⟨_, rfl, iteT_ rfl (fin0 H4 s4 (rl_nop hp h0 hs he hn))⟩
      · rintro σ' H4 ⟨rfl, s4, he, ps, hps⟩
        have tini := tx_init ti
        refine ⟨fun σ' H5 => σ' = [some (.str x), some (.int i), some (.ref lf), some (.str wd), some (.str sg), some (.str inn), some (.ref Fm), none, none, none, none, none, none] ∧ Same H3 H5 ∧ ¬ (wd = tuW ∨ wd = plW), ?_, ?_⟩
        · refine ⟨_, rfl, (by show 2 ≤ sizeLine; decide), fun z hz => ⟨z, _, rfl, .inr (SqT.of upd_same), rfl, rfl, decide (wd = tuW ∨ wd = plW), congrArg V.bl (two_at wd), ?_⟩⟩
          have s5 := s4.trans (Same.new (o := .tup [.str (Str.ofString "turn"), .str (Str.ofString "plan")]) (Same.refl H4) hz)
          by_cases hw : wd = tuW ∨ wd = plW
          · refine iteT_ (decide_eq_true hw) ?_
            have er := rl_lf (l := l) hp h0 hs he hps hw
            have hil := (tx_ok tini).1
            refine ⟨_, rfl, _, rfl, _, rfl, inn, rfl, sl _ ti, ⟨_, rfl⟩, _, _, rfl, rfl, rfl, (by rw [cut_init, sizeLine_eq]; omega), fun p hp' => ?_⟩
            rw [cut_init]
            have dl := dots_count (initS inn)
            have s6 := s5.trans (Same.new (o := .lst ((Txt.split (initS inn) (Str.ofString ".")).map V.str)) (Same.refl _) hp')
            have ep : (upd (upd H4 z (.tup [.str (Str.ofString "turn"), .str (Str.ofString "plan")])) p (.lst ((Txt.split (initS inn) (Str.ofString ".")).map V.str))) p = some (.lst ((Txt.split (initS inn) (Str.ofString ".")).map V.str)) := upd_same
            generalize (upd (upd H4 z (.tup [.str (Str.ofString "turn"), .str (Str.ofString "plan")])) p (.lst ((Txt.split (initS inn) (Str.ofString ".")).map V.str))) = H6 at s6 ep
            change H6 p = some (.lst ((dots (initS inn)).map V.str)) at ep
            refine ⟨_, rfl, p, rfl, ⟨_, SqL.of ep⟩, fun D hD => ?_⟩
            refine lc_list (K := K) (a := p) (xs := (dots (initS inn)).map V.str) (fun j H7 => Same H6 H7 ∧ H7 D = some (.lst ((((dots (initS inn)).take j).filter fun y => !nameB y).map V.str))) ⟨Same.new (Same.refl H6) hD, upd_same⟩ (fun j H7 _ h => SqL.of (h.1 _ _ ep)) ?_ ?_
            · rintro j y H7 hj ⟨s7, eD⟩
              rw [List.getElem?_map, Option.map_eq_some_iff] at hj
              obtain ⟨w0, hw0, rfl⟩ := hj
              have hwl := dots_len (List.mem_of_getElem? hw0)
              refine ⟨rfl, _, rfl, w0, rfl, by omega, fun H8 s8 => ⟨_, rfl, ?_⟩⟩
              have eD8 := s8 _ _ eD
              cases hn : nameB w0 with
              | true =>
                refine iteF_ Bool.false_ne_true ⟨s7.trans s8, ?_⟩
                rw [eD8, take_snoc hw0, List.filter_append]
                simp [hn]
              | false =>
                refine iteT_ rfl ⟨_, rfl, _, eD8, ?_, same_J (H := H8) hD _ _ _ (s7.trans s8) eD8, ?_⟩
                · rw [List.length_map, sizeLine_eq]
                  have := List.length_filter_le (fun y => !nameB y) ((dots (initS inn)).take j)
                  rw [List.length_take] at this
                  omega
                · rw [upd_same, take_snoc hw0, List.filter_append, List.map_append]
                  simp [hn]
            · rintro H7 ⟨s7, eD⟩
              rw [List.length_map, List.take_length] at eD
              refine ⟨(by show 0 ≤ sizeLine; decide), fun u hu0 => ⟨D, u, _, rfl, rfl, SqL.of ((Same.new (Same.refl H7) hu0) _ _ eD), SqL.of upd_same, _, rfl, ?_⟩⟩
              have s8 := s6.trans (s7.trans (Same.new (o := .lst []) (Same.refl H7) hu0))
              have ep8 := (s7.trans (Same.new (o := .lst []) (Same.refl H7) hu0)) _ _ ep
              have eall : ((((dots (initS inn)).filter fun y => !nameB y).map V.str).isEmpty) = (dots (initS inn)).all nameB := by
                rw [Bool.eq_iff_iff]
                simp only [List.isEmpty_iff, List.map_eq_nil_iff, List.filter_eq_nil_iff, List.all_eq_true]
                exact ⟨fun h c hc => by simpa using h c hc, fun h c hc => by simpa using h c hc⟩
              have gl := good_leaf (y := initS inn) hw
              rw [eall]
              have endT : leafB wd (initS inn) = true → ∀ q1, (upd H7 u (.lst [])) q1 = none → Q (.ref q1) (upd (upd H7 u (.lst [])) q1 (.tup [.str wd, .str (initS inn)])) := fun hb q1 hq1 => by
                rw [hb, if_pos rfl] at er
                have s9 := s8.trans (Same.new (o := .tup [.str wd, .str (initS inn)]) (Same.refl _) hq1)
                refine kk (.ref q1) _ (x3.trans (Xs.of s9)) (by rw [er]; exact s9 _ _ e3) ?_
                rw [er]
                exact .t (SqT.of upd_same) (.cons (.s wd) (.cons (.s _) .nil))
              have endF : leafB wd (initS inn) = false → Q .non (upd H7 u (.lst [])) := fun hb => by
                rw [hb, if_neg Bool.false_ne_true] at er
                exact fin0 _ s8 er
              cases hal : (dots (initS inn)).all nameB with
              | false =>
                rw [hal, Bool.false_and] at gl
                refine iteF_ Bool.false_ne_true ⟨_, rfl, false, rfl, iteF_ Bool.false_ne_true (endF gl.symm)⟩
              | true =>
                rw [hal, Bool.true_and] at gl
                refine iteT_ rfl ?_
                refine ⟨_, rfl, p, _, rfl, .inl (SqL.of ep8), _, rfl, rfl, _, rfl, ?_⟩
                have len0 : ((dots (initS inn)).map V.str).length = (dots (initS inn)).length := List.length_map _
                have dec : decide (V.str wd = V.str (Str.ofString "turn")) = decide (wd = tuW) := decide_eq_decide.mpr ⟨fun z => V.str.inj z, fun z => by rw [z]⟩
                rw [dec]
                have close : ∀ (m : Nat), decide ((dots (initS inn)).length < m) = leafB wd (initS inn) → decide ((((dots (initS inn)).map V.str).length : Int) < (m : Int)) = leafB wd (initS inn) := fun m h => by
                  rw [← h, len0]
                  exact decide_eq_decide.mpr (by omega)
                refine ite2 (fun ht => ?_) (fun ht => ?_)
                · rw [if_pos ht] at gl
                  refine ⟨_, _, rfl, rfl, _, rfl, _, rfl, ?_⟩
                  have c3 := close 3 gl
                  refine ite2 (fun hb => ?_) (fun hb => ?_)
                  · refine ⟨_, rfl, _, rfl, _, rfl, _, rfl, inn, rfl, sl _ ti, (by show 2 ≤ sizeLine; decide), fun q1 hq1 => ?_⟩
                    rw [cut_init]
                    exact endT (c3.symm.trans hb) q1 hq1
                  · exact endF (by rw [← c3]; simpa using hb)
                · rw [if_neg ht] at gl
                  refine ⟨_, _, rfl, rfl, _, rfl, _, rfl, ?_⟩
                  have c3 := close 2 gl
                  refine ite2 (fun hb => ?_) (fun hb => ?_)
                  · refine ⟨_, rfl, _, rfl, _, rfl, _, rfl, inn, rfl, sl _ ti, (by show 2 ≤ sizeLine; decide), fun q1 hq1 => ?_⟩
                    rw [cut_init]
                    exact endT (c3.symm.trans hb) q1 hq1
                  · exact endF (by rw [← c3]; simpa using hb)
          · exact iteF_ (by rw [decide_eq_false hw]; exact Bool.false_ne_true) ⟨rfl, s5, hw⟩
        · rintro σ' H5 ⟨rfl, s5, hw⟩
          obtain ⟨tps, lps, lp1⟩ := tx_pieces tini hps
          refine ⟨_, rfl, _, rfl, _, rfl, inn, rfl, sl _ ti, initS inn, (by show [V.str (cutS inn none (some (-1)))] = _; rw [cut_init]), by have := (tx_ok tini).1; omega, fun ps' hps' a H6 s6 _ ea => ?_, fun hn H6 s6 => by rw [hps] at hn; cases hn⟩
          obtain rfl : ps = ps' := Option.some.inj (hps.symm.trans hps')
          have s36 := s5.trans s6
          have el : (ps.map V.str).length = ps.length := List.length_map _
          cases ha : ar wd with
          | none =>
            refine ⟨_, rfl, Fm, rfl, .inl ⟨arK, .inl (s36 _ _ eF)⟩, _, rfl, none, dget H6 _ s36 (by rw [ha]; rfl), _, rfl, a, _, rfl, .inl (SqL.of ea), rfl, _, rfl, ?_⟩
            refine iteT_ (by have : ¬ decide (V.int 0 = V.int ((ps.map V.str).length : Int)) = true := vint_ne (by rw [el]; omega); simpa using this) (iteT_ rfl ?_)
            exact fin0 H6 s36 (rl_bad hp h0 hs he hps hw (by rw [ha]; simp))
          | some nn =>
            refine ⟨_, rfl, Fm, rfl, .inl ⟨arK, .inl (s36 _ _ eF)⟩, _, rfl, some (.int nn), dget H6 _ s36 (by rw [ha]; rfl), _, rfl, a, _, rfl, .inl (SqL.of ea), rfl, _, rfl, ?_⟩
            by_cases hn : nn = ps.length
            · refine iteF_ (by have : decide (V.int (nn : Int) = V.int ((ps.map V.str).length : Int)) = true := vint_eq (by rw [el, hn]); show ¬ (!decide (V.int (nn : Int) = V.int ((ps.map V.str).length : Int))) = true; rw [this]; decide) ?_
              refine ⟨_, rfl, _, rfl, Fm, some (.int nn), rfl, dget H6 _ s36 (by rw [ha]; rfl), _, rfl, iteF_ Bool.false_ne_true ?_⟩
              have er := rl_rec (l := l) hp h0 hs he hps hw (by rw [ha, hn])
              have lf6 := s36 _ _ e3
              refine ⟨_, rfl, a, rfl, ⟨_, SqL.of ea⟩, fun D hD => ?_⟩
              have naf : a ≠ lf := fun z => by rw [z, lf6] at ea; have := (HO.lst.inj (Option.some.inj ea)); cases ps with | nil => simp at lp1 | cons b r => cases (List.cons.inj this).1
              have nDf : D ≠ lf := fun z => by rw [z, lf6] at hD; cases hD
              refine lc_list (K := K) (a := a) (xs := ps.map V.str) (fun j H' => ∃ ys, H' D = some (.lst ys) ∧ H' lf = some (.lst [.int (rlAll (rl l) (ps.take j) (k - 1)).2]) ∧ Xs lf H6 H' ∧ EachIs (fun y r => In K H' y (oG r)) ys (rlAll (rl l) (ps.take j) (k - 1)).1)
                ⟨[], upd_same, by rw [upd_ne (Ne.symm nDf)]; exact lf6, Xs.of (Same.new (Same.refl H6) hD), .nil⟩ (fun j H' _ ⟨_, _, _, xx, _⟩ => SqL.of (xx _ _ naf ea)) ?_ ?_
              · rintro j y H7 hj ⟨ys, eD, el7, x7, hy⟩
                rw [List.getElem?_map, Option.map_eq_some_iff] at hj
                obtain ⟨p, hpj, rfl⟩ := hj
                have hpm := List.mem_of_getElem? hpj
                have hjl := (List.getElem?_eq_some_iff.mp hpj).1
                refine ⟨rfl, _, rfl, _, rfl, _, _, rfl, rfl, _, rfl, ?_⟩
                refine hI l (by omega) _ _ _ _ ⟨p, i + 1, (rlAll (rl l) (ps.take j) (k - 1)).2, lf, rfl, by omega, el7, tps p hpm, fun v H8 x8 el8 hv => ?_⟩
                have eD8 := x8 _ _ nDf eD
                have yl : ys.length ≤ 1001 := by
                  rw [hy.length, rlAll_len, List.length_take]
                  omega
                have app := rlAll_app (rl l) p (ps.take j) (k - 1)
                refine ⟨ys, eD8, by rw [sizeLine_eq]; omega, ys ++ [v], upd_same, ?_, fun b o hb e => ?_, ?_⟩
                · rw [upd_ne (Ne.symm nDf), take_snoc hpj, app]
                  exact el8
                · rw [upd_ne (fun z => by rw [z, hD] at e; cases e)]
                  exact x8 b o hb (x7 b o hb e)
                · rw [take_snoc hpj, app]
                  have t1 : TupK H7 H8 := Xs.tk el7 x8
                  have t2 : TupK H8 (upd H8 D (.lst (ys ++ [v]))) := TupK.off tk_refl eD8
                  have gdp := rl_gd (l := l) (x := p) (k := (rlAll (rl l) (ps.take j) (k - 1)).2) (by omega) (tps p hpm)
                  have hy' : EachIs (fun y r => r ∈ (rlAll (rl l) (ps.take j) (k - 1)).1 ∧ In K H7 y (oG r)) ys (rlAll (rl l) (ps.take j) (k - 1)).1 := each_mem hy
                  refine each_appS ?_ (hy'.mono fun y r q => ?_)
                  · exact in_tkg t2 _ _ _ (Nat.le_refl _) gdp.1 hv
                  · obtain ⟨p0, hp0, m0, rfl⟩ := rlAll_mem _ _ _ q.1
                    exact in_tkg (t1.trans t2) _ _ _ (Nat.le_refl _) (rl_gd (by omega) (tps p0 (List.mem_of_mem_take hp0))).1 q.2
              · rintro H7 ⟨ys, eD, el7, x7, hy⟩
                rw [List.length_map, List.take_length] at el7 hy
                have hgo : ∀ r ∈ (rlAll (rl l) ps (k - 1)).1, gd (oG r) = true ∧ dp (oG r) ≤ 13 := fun r hr => by
                  obtain ⟨p0, hp0, m0, rfl⟩ := rlAll_mem _ _ _ hr
                  exact rl_gd (by omega) (tps p0 hp0)
                have hpl : ∀ r ∈ (rlAll (rl l) ps (k - 1)).1, ∀ p, r = some p → planB l p = true := fun r hr p e => by
                  obtain ⟨p0, hp0, m0, e0⟩ := rlAll_mem _ _ _ hr
                  exact (rl_ok l p0 m0 p (rl l p0 m0).2 (Prod.ext (e0.symm.trans e) rfl)).1
                have hin := each_list hy
                have xf : Xs lf H H7 := (x3.trans (Xs.of s36)).trans x7
                have yl : ys.length = ps.length := by rw [hy.length, rlAll_len]
                have dpA : DpAll K H7 ys (((rlAll (rl l) ps (k - 1)).1.map oG).map toD) := inL_dp _ _ (fun g hg v hv => by
                  obtain ⟨r, hr, rfl⟩ := List.mem_map.mp hg
                  exact in_dpg _ _ _ (Nat.le_refl _) (hgo r hr).1 hv) hin
                have shp : SeqAt.shaped (.list (((rlAll (rl l) ps (k - 1)).1.map oG).map toD)) = true := by
                  have kk := layAll (n := 13) (gs := (rlAll (rl l) ps (k - 1)).1.map oG) fun g hg => by
                    obtain ⟨r, hr, rfl⟩ := List.mem_map.mp hg
                    exact toD_okg 13 _ (hgo r hr).2 (hgo r hr).1
                  unfold SeqAt.shaped
                  rw [show (PyData.list (((rlAll (rl l) ps (k - 1)).1.map oG).map toD)).canLay0 = true by simpa [PyData.canLay0] using kk.1, Bool.true_and, decide_eq_true_iff]
                  simp only [PyData.depth]
                  omega
                refine ⟨_, rfl, .none, _, .non, .lst (SqL.of eD) dpA, by decide +kernel, shp, _, rfl, ?_⟩
                rw [none_any hpl, allS_isNone]
                cases eS : allS (rlAll (rl l) ps (k - 1)).1 with
                | none =>
                  rw [eS] at er
                  refine iteF_ Bool.false_ne_true (kk .non H7 xf (by rw [er]; exact el7) (by rw [er]; exact .non))
                | some gs =>
                  rw [eS] at er
                  have ers := allS_len eS
                  refine iteT_ rfl ⟨_, rfl, (by show 1 ≤ sizeLine; decide), fun z hz => ⟨_, rfl, D, _, rfl, .inl ⟨SqL.of ((Same.new (Same.refl H7) hz) _ _ eD), fun u hu0 => ?_⟩⟩⟩
                  have s8 := Same.new (o := .tup [.str wd]) (Same.refl H7) hz
                  have s9 := s8.trans (Same.new (o := .tup ys) (Same.refl _) hu0)
                  have nzu : z ≠ u := ne_of_none upd_same hu0
                  have hysne : ys ≠ [] := fun q => by rw [q] at yl; simp at yl; omega
                  refine ⟨z, u, _, ys, rfl, rfl, SqT.of (by rw [upd_ne nzu]; exact upd_same), SqT.of upd_same, by simp, by rw [sizeLine_eq]; simp only [List.length_cons, List.length_nil]; omega, fun q => absurd q hysne, fun _ v hv => ?_⟩
                  have s10 := s9.trans (Same.new (o := .tup ([.str wd] ++ ys)) (Same.refl _) hv)
                  refine kk (.ref v) _ (xf.trans (Xs.of s10)) (by rw [er]; exact s10 _ _ el7) ?_
                  rw [er]
                  have hin2 : InL K H7 ys gs := by
                    rw [ers, List.map_map] at hin
                    have : gs.map (oG ∘ some) = gs := by
                      rw [show (oG ∘ some : G → G) = id from rfl, List.map_id]
                    rw [this] at hin
                    exact hin
                  exact .t (SqT.of upd_same) (.cons (.s wd) (hin2.same s10))
            · refine iteT_ (by have : ¬ decide (V.int (nn : Int) = V.int ((ps.map V.str).length : Int)) = true := vint_ne (by rw [el]; omega); show (!decide (V.int (nn : Int) = V.int ((ps.map V.str).length : Int))) = true; simpa using this) (iteT_ rfl ?_)
              exact fin0 H6 s36 (rl_bad hp h0 hs he hps hw (by rw [ha]; intro z; exact hn (Option.some.inj z)))
end
end K1
set_option Elab.async false
set_option linter.all false
set_option maxRecDepth 100000
set_option maxHeartbeats 2000000
namespace K1
open PySem PySem.Spec PyProof.Rows L2
open PySem.W (EachIs)
abbrev sOther : Stmt := topS 43
abbrev nOther : List Str := ["_law_state", "_law_phrase", "_law_signs", "_law_at", "_law_way", "_law_sign"]
theorem scOther : FnScope nOther ["_law_state", "_law_phrase"] (defScope sOther) := ⟨rfl, rfl, rfl, by decide +kernel, rfl, by decide +kernel, by decide +kernel⟩
theorem cut_to (x : Str) (n : Nat) : (cutS x none (some (n : Int))).cps.toList = x.cps.toList.take n := by
  have e1 : HT.sIx x.length 0 (none : Option Int) = 0 := rfl
  have e2 : HT.sIx x.length x.length (some (n : Int)) = min n x.length := HT.sIx_nat _ _ _
  show ((x.cps.toList.drop (HT.sIx x.length 0 none)).take (HT.sIx x.length x.length (some (n : Int)) - HT.sIx x.length 0 none)).toArray.toList = _
  rw [e1, e2, List.drop_zero, Nat.sub_zero]
  have hl := len_toList x
  rw [← hl]
  rcases Nat.le_total n x.cps.toList.length with h | h
  · rw [Nat.min_eq_left h]
  · rw [Nat.min_eq_right h, List.take_length, List.take_of_length_le h]
theorem cut_from (x : Str) (n : Nat) : (cutS x (some (n : Int)) none).cps.toList = x.cps.toList.drop n := by
  have e1 : HT.sIx x.length x.length (none : Option Int) = x.length := rfl
  have e2 : HT.sIx x.length 0 (some (n : Int)) = min n x.length := HT.sIx_nat _ _ _
  show ((x.cps.toList.drop (HT.sIx x.length 0 (some (n : Int)))).take (HT.sIx x.length x.length none - HT.sIx x.length 0 (some (n : Int)))).toArray.toList = _
  rw [e1, e2]
  have hl := len_toList x
  rw [← hl]
  show (x.cps.toList.drop (min n x.cps.toList.length)).take (x.cps.toList.length - min n x.cps.toList.length) = _
  rw [List.take_of_length_le (by rw [List.length_drop]; omega)]
  rcases Nat.le_total n x.cps.toList.length with h | h
  · rw [Nat.min_eq_left h]
  · rw [Nat.min_eq_right h, List.drop_length, List.drop_of_length_le h]
abbrev signsS : Str := Str.ofString " !\"#$&'()*+,-./0129:;<=>?@ABYZ[]^_`abcdefghijklmnopqrstuvwxyz{|}~"
abbrev moreS : Str := Str.ofString "(),.a"
theorem signs_ok : PyData.strOk signsS = true ∧ 0 < signsS.length ∧ signsS.length ≤ 100 ∧ PyData.strOk moreS = true ∧ moreS.length = 5 := by decide +kernel
theorem ok_app2 {x y : Str} (h1 : PyData.strOk x = true) (h2 : PyData.strOk y = true) : PyData.strOk (x ++ y) = true := strOk_iff.mpr fun c hc => by
  rw [app_l] at hc
  rcases List.mem_append.mp hc with hc | hc
  · exact strOk_iff.mp h1 c hc
  · exact strOk_iff.mp h2 c hc
def spOther : Sp := fun vs H Q _ => ∃ (d g c : Addr) (t : Nat) (x : Str), vs = [.ref d, .str x] ∧ Gen d g c t H ∧ t + 10 < 2 ^ 30 ∧ PyData.strOk x = true ∧ x.length ≤ 999 ∧
  ∀ (y : Str) (H' : Hp), PyData.strOk y = true → y.length ≤ x.length + 1 → Gen d g c (t + 5) H' → Kp d g H H' → Q (.str y) H'
section
variable {P : Program} {w : World} {K : PySem.W.Frag} {mg : Str → Option Value} {base : Heap}
theorem ok_other {f : Addr} {fd : FuncData} (F : Fun K "_law_otherwise" "_law_otherwise" sOther f fd) (DT : Df P w K mg base C8.CX0 "_law_take" 2 ["_law_state", "_law_size"] spTake) (DP : Df P w K mg base C8.CX0 "_law_pick" 3 ["_law_state", "_law_some"] spPick) (DS : Df P w K mg base C8.CX0 "_law_pick" 3 ["_law_state", "_law_some"] spPickS) (T : Ct mg) :
    FnOk P w K mg base C8.CX0 4 f fd ["_law_state", "_law_phrase"] spOther := by
  refine F.ok scOther (fun vs H Q E h => ?_) (fun cdv A outer s H vs Q E hr h => ?_)
  · obtain ⟨d, g, c, t, x, rfl, _⟩ := h
    rfl
  · obtain ⟨d, g, c, t, x, rfl, G, ht, hx, hl, k⟩ := h
    have hr2 : Room 2 _ := hr.mono (by decide)
    refine ⟨_, pss_cons (ps_set (i := 2) scOther.nd rfl (Or.inl rfl) pe_str)
      (pss_cons (ps_par (i := 3) (j := 4) (by rfl) scOther.nd rfl rfl (by decide) rfl rfl (pa_cons (pe_df DT hr2 pass0 (pa_cons (pv 0) (pa_cons (pe_op op_add (pe_callB call_len (by rfl) T.len PySem.boot_len (pa_cons (pv 1) pa_nil)) pe_int) pa_nil))) (pa_cons (pe_df DT hr2 pass0 (pa_cons (pv 0) (pa_cons pe_int pa_nil))) pa_nil)) (by rfl))
      (C8.pss_cut (ps_set (i := 5) scOther.nd rfl (Or.inl rfl) (pe_df DP hr pass0 (pa_cons (pv 0) (pa_cons (pe_lst (pa_cons (pe_df DS hr pass0 (pa_cons (pv 0) (pa_cons (pv 2) pa_nil))) (pa_cons (pe_df DS hr pass0 (pa_cons (pv 0) (pa_cons (pe_op op_add_str pe_str (pv 1)) pa_nil))) pa_nil))) pa_nil))))
      (pss_cons (ps_if (pt_cmpR op_eq (pv 4) pe_int (nomark _)) (pss_one (ps_ret (pe_op op_add_str (pe_slice sl_str (pv 1) po_none (po_some (pv 3))) (pe_slice sl_str (pv 1) (po_some (pe_op op_add (pv 3) pe_int)) po_none)))) pss_nil)
      (pss_one (ps_ret (pe_op op_add_str (pe_op op_add_str (pe_slice sl_str (pv 1) po_none (po_some (pv 3))) (pv 5)) (pe_slice sl_str (pv 1) (po_some (pe_op op_add (pv 3) (pe_callTy call_int1 (by rfl) T.int PyProof.Rows.boot_int (pa_cons (pe_cmpR op_eq (pv 4) pe_int (nomark _)) pa_nil)))) po_none))))))), ?_⟩
    obtain ⟨so1, so2, so3, so4, so5⟩ := signs_ok
    have sl : x.length ≤ sizeLine := by rw [sizeLine_eq]; omega
    refine ⟨_, rfl, _, rfl, .str x, x.length, rfl, ⟨sl, rfl⟩, _, _, rfl, rfl, d, g, c, t, _, rfl, G, by omega, by omega, by omega, fun a H1 a0 a1 G1 k1 => ?_⟩
    refine ⟨_, rfl, d, g, c, _, 4, rfl, G1, by omega, by decide, by decide, fun b H2 b0 b1 G2 k2 => ⟨_, _, rfl, ?_⟩⟩
    refine ⟨fun σ' H' => ∃ z : Nat, z < 1114112 ∧ σ' = [some (.ref d), some (.str x), some (.str signsS), some (.int a), some (.int b), some (.str (ch z))] ∧ Gen d g c (t + 5) H' ∧ Kp d g H H', ?_, ?_⟩
    · refine ⟨_, rfl, _, rfl, _, rfl, d, g, c, _, signsS, rfl, G2, by omega, so2, by omega, fun z1 H3 m1 G3 k3 => ?_⟩
      refine ⟨_, rfl, _, rfl, _, _, rfl, rfl, by rw [so5, sizeLine_eq]; omega, d, g, c, _, moreS ++ x, rfl, G3, by omega, by rw [app_len, so5]; omega, by rw [app_len, so5]; omega, fun z2 H4 m2 G4 k4 => ?_⟩
      refine ⟨(by show 2 ≤ sizeLine; decide), fun l hl0 => ?_⟩
      have s5 := Same.new (o := .lst [.str (ch z1), .str (ch z2)]) (Same.refl H4) hl0
      obtain ⟨ld, lg⟩ := G4.nd hl0
      refine ⟨d, g, c, l, _, _, rfl, G4.same s5, by omega, upd_same, lg, by simp, by simp, fun v H5 hv G5 k5 => ?_⟩
      have kk := (((k1.trans k2).trans k3).trans k4).trans ((Kp.of s5).trans k5)
      have ok1 := strOk_iff.mp so1 z1 m1
      have ok2 : z2 < 1114112 := by
        rw [app_l] at m2
        rcases List.mem_append.mp m2 with m2 | m2
        · exact strOk_iff.mp so4 z2 m2
        · exact strOk_iff.mp hx z2 m2
      simp only [List.mem_cons, List.not_mem_nil, or_false] at hv
      rcases hv with rfl | rfl
      · exact ⟨z1, ok1, rfl, G5.mono (by omega), kk⟩
      · exact ⟨z2, ok2, rfl, G5.mono (by omega), kk⟩
    · rintro σ' H5 ⟨z, hz, rfl, G5, k5⟩
      obtain ⟨n, rfl⟩ := Int.eq_ofNat_of_zero_le a0
      have hn : n ≤ x.length := by omega
      have lt1 : (cutS x none (some (n : Int))).length ≤ n := by
        rw [← len_toList, cut_to, List.length_take]
        omega
      have cok : ∀ c0 ∈ x.cps.toList, c0 < 1114112 := strOk_iff.mp hx
      have ok1 : PyData.strOk (cutS x none (some (n : Int))) = true := strOk_iff.mpr fun c0 h => by
        rw [cut_to] at h
        exact cok c0 (List.mem_of_mem_take h)
      have ok2 : ∀ m : Nat, PyData.strOk (cutS x (some (m : Int)) none) = true := fun m => strOk_iff.mpr fun c0 h => by
        rw [cut_from] at h
        exact cok c0 (List.mem_of_mem_drop h)
      have ll : ∀ m : Nat, (cutS x (some (m : Int)) none).length = x.length - m := fun m => by
        rw [← len_toList, cut_from, List.length_drop, len_toList]
      have okz : PyData.strOk (ch z) = true := strOk_iff.mpr fun c0 h => by
        rw [ch_l] at h
        rw [List.mem_singleton.mp h]
        exact hz
      have lz : (ch z).length = 1 := rfl
      have en : ((n : Int) + 1) = ((n + 1 : Nat) : Int) := by omega
      refine ⟨_, rfl, rfl, _, rfl, ?_⟩
      refine ite2 (fun _ => ?_) (fun _ => ?_)
      · have l2 := ll (n + 1)
        refine ⟨_, rfl, _, rfl, n, rfl, x, rfl, sl, _, rfl, _, rfl, _, _, rfl, rfl, _, rfl, x, rfl, sl, _, _, rfl, rfl, ?_, ?_⟩
        · rw [sizeLine_eq]
          show (cutS x none (some (n : Int))).length + (cutS x (some ((n : Int) + 1)) none).length ≤ _
          rw [en]
          omega
        · show Q (.str (cutS x none (some (n : Int)) ++ cutS x (some ((n : Int) + 1)) none)) H5
          rw [en]
          exact k _ _ (ok_app2 ok1 (ok2 _)) (by rw [app_len]; omega) G5 k5
      · refine ⟨_, rfl, _, rfl, n, rfl, x, rfl, sl, _, rfl, _, _, rfl, rfl, by rw [lz, sizeLine_eq]; omega, _, rfl, _, rfl, _, rfl, rfl, .inr ⟨_, rfl, _, _, rfl, rfl, _, rfl, x, rfl, sl, _, _, rfl, rfl, ?_⟩⟩
        obtain ⟨m, hm, hm1⟩ : ∃ m : Nat, ((n : Int) + (if decide (V.int b = V.int 1) = true then 1 else 0)) = (m : Int) ∧ n ≤ m := by
          by_cases hb : decide (V.int b = V.int 1) = true
          · exact ⟨n + 1, by rw [if_pos hb]; omega, by omega⟩
          · exact ⟨n, by rw [if_neg hb]; omega, Nat.le_refl _⟩
        have l2 := ll m
        have l3 : (cutS x none (some (n : Int)) ++ ch z).length = (cutS x none (some (n : Int))).length + 1 := by rw [app_len, lz]
        refine ⟨?_, ?_⟩
        · show (cutS x none (some (n : Int)) ++ ch z).length + (cutS x (some ((n : Int) + (if decide (V.int b = V.int 1) = true then 1 else 0))) none).length ≤ _
          rw [hm, sizeLine_eq]
          omega
        · show Q (.str (cutS x none (some (n : Int)) ++ ch z ++ cutS x (some ((n : Int) + (if decide (V.int b = V.int 1) = true then 1 else 0))) none)) H5
          rw [hm]
          exact k _ _ (ok_app2 (ok_app2 ok1 okz) (ok2 _)) (by rw [app_len]; omega) G5 k5
end
end K1
set_option Elab.async false
set_option linter.all false
set_option maxRecDepth 100000
set_option maxHeartbeats 4000000
namespace K1
open PySem PySem.Spec PyProof.Rows L2
/-! ### an error that is kept behind its except suite: it is tracked as a thing of its own -/
def ExcO (a : Addr) (cls : Value) (d : Option Addr) : HO := .ext fun h => ∃ (oe : Obj) (vs : Array Value), h.get? a = some oe ∧ oe.data = .fields vs ∧ Zc cls d oe
theorem excO_ok {P : Program} {w : World} {H : Hp} {h : Heap} {a : Addr} {cls : Value} {d : Option Addr} {oe : Obj} {vs : Array Value} (ha : h.get? a = some oe) (hd : oe.data = .fields vs) (hz : Zc cls d oe) : ObjOk P w H h a (ExcO a cls d) :=
  ⟨⟨oe, vs, ha, hd, hz⟩, ⟨oe, ha⟩, fun h1 h2 ⟨o, v, e, p, q⟩ k => ⟨o, v, k o e, p, q⟩⟩
section
variable {X : Cx} {pins : List (Addr × Obj)} {σ : L2.St} {H : Hp} {s : Shared}
theorem inv_track (I : Inv X pins σ H s) {a : Addr} {cls : Value} {d : Option Addr} {oe : Obj} {vs : Array Value} (ha : s.heap.get? a = some oe) (hd : oe.data = .fields vs) (hz : Zc cls d oe) (na : H a = none)
    (n0 : X.s_0.heap.get? a = none ∨ a ∈ X.ex) (nL : a ≠ X.env.locals) (nc : ∀ x c, X.env.cells.lookup x = some c → c ≠ a) (np : ∀ p ∈ X.pn ++ pins, p.1 ≠ a) : Inv X pins σ (upd H a (ExcO a cls d)) s := by
  have off : ∀ {b : Addr} {o : HO}, H b = some o → upd H a (ExcO a cls d) b = some o := fun {b o} e => by
    rw [upd_ne (ne_of_none e na)]
    exact e
  refine ⟨I.ok, I.os, I.bare, ⟨I.base.keep, I.base.slot, fun b o e n hx => ?_, I.base.there, fun b xs e => off (I.base.tups b xs e), fun b o u e => off (I.base.frzs b o u e), fun b ps e => ?_⟩, I.loc, I.cell, ?_, fun x c e => ?_, fun p hp => ?_, fun b o e => ?_, I.len⟩
  · have hb : b ≠ a := fun z => by
      rcases n0 with n0 | n0
      · rw [z, n0] at e
        cases e
      · exact hx (z ▸ n0)
    rw [upd_ne hb]
    exact I.base.free b o e n hx
  · obtain ⟨more, q⟩ := I.base.tbls b ps e
    exact ⟨more, off q⟩
  · rw [upd_ne (Ne.symm nL)]
    exact I.free
  · rw [upd_ne (nc x c e)]
    exact I.freeC x c e
  · obtain ⟨e1, e2, e3⟩ := I.pin p hp
    exact ⟨e1, by rw [upd_ne (np p hp)]; exact e2, e3⟩
  · by_cases hb : b = a
    · subst hb
      rw [upd_same] at e
      cases e
      exact excO_ok ha hd hz
    · rw [upd_ne hb] at e
      exact (I.hok b o e).stay (fun _ _ _ q => q) (fun _ q => off q) fun _ _ q => off q
end
/-- what the clause wishes of an exception that is kept -/
def wKeep (K : PySem.W.Frag) (c : Value) (i : Nat) (ts : Addr → Value → Option Addr → TS) (Wout : WX) (D : Ends) : WX := fun cls d σ H =>
  ∃ b, PySem.W.exmOne K cls c = some b ∧ (b = true → ∀ a, H a = none → ts a cls d { nx := fun σ' H' => D.nx (σ'.set i none) (upd H' a (ExcO a cls d)), rt := fun _ _ => False, bk := fun _ _ => False, ct := fun _ _ => False } (σ.set i (some (.ref a))) H) ∧
    (b = false → Wout cls d σ H)
section
variable {X : Cx} {x n : Str} {c : Value} {i : Nat} {body suite : List Stmt} {b₀ : Stmt} {np pos pos' : Pos} {tb : WX → TS} {ts : Addr → Value → Option Addr → TS} {Wout : WX}
theorem ps_try_keep (hs : X.stack = X.env :: X.outer) (hf : X.env.frame = some X.env.locals) (hN : X.N.Nodup) (hi : X.N[i]? = some n) (hln : X.env.kindOf n = some .local) (hc : Names X x c) (tk : Takes X Wout)
    (hb : ∀ (W : WX) (pn : List (Addr × Obj)) (xe : Value → Shared → Prop), Takes (X.tr pn xe) W → PassesOwn (model X.prog X.w) X.A X.env xe → PSs (X.tr pn xe) body (tb W))
    (hsu : ∀ (a : Addr) (oe : Obj) (cls : Value) (d : Option Addr) (pn : List (Addr × Obj)), Zc cls d oe → (∃ vs, oe.data = .fields vs) → PSs (X.suite a ((a, oe) :: pn)) (b₀ :: suite) (ts a cls d)) :
    PS X (.Try body [.ExceptHandler (some (.Name x np)) (some n) (b₀ :: suite) pos'] [] [] pos) (fun D σ H => tb (wKeep X.K c i ts Wout D) D σ H) := by
  refine ⟨fun pins s σ H D I h => ?_⟩
  have ok := I.ok
  have frA : X.A.frames = some (X.env :: X.outer) := by rw [ok.frames, hs]
  have hloc : Loc X.env.scope n := .inl hln
  refine wpAny_Try_except ?_
  refine wpAny_mono ((hb (wKeep X.K c i ts Wout D) (X.pn ++ pins)
    (fun e s₁ => wpAny (model X.prog X.w) X.A (noteFrame e X.env)
      (fun _ s₂ => wpAny (model X.prog X.w) X.A (setFlight e none)
        (fun _ s₃ => wpAny (model X.prog X.w) X.A (handleBy e X.env [.ExceptHandler (some (.Name x np)) (some n) (b₀ :: suite) pos']) (SP X pins D) X.xe s₃) X.xe s₂) X.xe s₁)
    (fun u s' xx => ?_) PassesOwn.looking).run [] s σ H D (I.toTry _) h) (fun f s1 hsp => ?_) (fun e s1 he => he)
  · obtain ⟨a, B, sI, pins', σ', H', cls, d, rfl, J', nb, up, sky, na, os, ag, b, hb1, hyes, hno⟩ := xx
    have J : Inv X pins σ' H' sI := J'.ofTry ok
    have skyE : Sky B (X.env :: X.outer) a (Zc cls d) X.env.locals s'.heap := by rw [← hs]; exact sky
    show wpAny (model X.prog X.w) X.A (noteFrame (.ref a) X.env) _ _ _
    refine Sky.land Zc.steady hf (hfr := frA) skyE fun h3 fl3 up3 => ?_
    have J3 : Inv X pins σ' H' { s' with heap := h3 } := J.landed nb fl3.1 (up.trans up3) os ag
    obtain ⟨oe3, vs3, he3, hz3, hd3⟩ := fl3.there
    have nfr : a ∉ frs (X.env :: X.outer) := fun hm => by
      obtain ⟨_, o', e', hnf⟩ := fl3.2.2.1.mem hm
      rw [he3] at e'
      cases e'
      exact hnf _ hd3
    have nL : a ≠ X.env.locals := fun z => nfr (List.mem_filterMap.mpr ⟨X.env, .head _, by rw [hf, z]⟩)
    have nF : a ∉ X.fs := fun hm => by
      obtain ⟨e, he, q⟩ := List.mem_filterMap.mp hm
      exact nfr (List.mem_filterMap.mpr ⟨e, .tail _ he, q⟩)
    have nI : sI.heap.get? a = none := by
      cases q : sI.heap.get? a with
      | none => rfl
      | some o =>
        have z := nb a o q (by rw [hs]; exact nfr)
        rw [fl3.2.1] at z
        cases z
    have n0 : X.s_0.heap.get? a = none ∨ a ∈ X.ex := by
      by_cases hx : a ∈ X.ex
      · exact .inr hx
      · cases q : X.s_0.heap.get? a with
        | none => exact .inl rfl
        | some o =>
          obtain ⟨o', z⟩ := J.base.there a o q hx
          rw [nI] at z
          cases z
    have nc : ∀ y c, X.env.cells.lookup y = some c → c ≠ a := fun y c e z => by
      obtain ⟨v, hv⟩ := J.cell y c e
      rw [z] at hv
      obtain ⟨o, ho, _⟩ := hv
      rw [nI] at ho
      cases ho
    have npa : ∀ p ∈ X.pn ++ pins, p.1 ≠ a := fun p hp z => by
      obtain ⟨e, _⟩ := J.pin p hp
      rw [z, nI] at e
      cases e
    have S3 := J3.suite he3 hd3 na nL nF
    refine wpAny_handleBy_cons (codeAny_handlers_test ?_) (by intro q; cases q)
    have LT : PySem.W.Looks (model X.prog X.w) h3 (typeOf (.ref a)) cls := fun A Q E s k q => by
      refine wpAny_typeOf_ref (k _ _ he3) ?_
      rw [hz3.1]
      exact q
    have LM := PySem.W.exm_one (M := model X.prog X.w) (J3.kIn) LT hb1
    have named : ∀ {Q : Value → Shared → Prop} {E : Value → Shared → Prop}, Q c { s' with heap := h3 } →
        wpAny (model X.prog X.w) (X.A.mark (some (.ref a))) (eval (.Name x np) X.env) Q E { s' with heap := h3 } := fun {Q E} q => by
      obtain ⟨hg, hdbg, hm | ⟨hm, hv, hnn⟩⟩ := hc
      · exact ld_glob (X := X.suite a ((a, oe3) :: (X.pn ++ pins))) S3 hg hm q hdbg
      · exact ld_blt (X := X.suite a ((a, oe3) :: (X.pn ++ pins))) S3 hg hm hv q hnn hdbg
    refine named (LM.here ?_)
    cases b with
    | true =>
      refine codeAny_handlers_suite_as ?_
      refine HandSPX.lands_againZ fl3 fun h4 fl4 up4 => ?_
      obtain ⟨oe4, vs4, he4, hz4, hd4⟩ := fl4.there
      have K4 : Inv X pins σ' H' { s' with heap := h4 } := J.landed nb fl4.1 ((up.trans up3).trans up4) os ag
      have S4 := K4.suite he4 hd4 na nL nF
      refine store_ok (X := X.suite a ((a, oe4) :: (X.pn ++ pins))) (v := .ref a) S4 hN hi hloc rfl (fun s5 S5 => ?_) (.inr hln)
      refine wpAny_mono ((hsu a oe4 cls d (X.pn ++ pins) hz4 ⟨_, hd4⟩).run [] s5 _ H' _ S5 (hyes rfl a na)) (fun f s6 hsp => ?_) (fun _ _ z => False.elim z)
      cases f with
      | next =>
        obtain ⟨σ6, H6, S6, q6⟩ := hsp
        obtain ⟨g1, g2, _⟩ := S6.pin (a, oe4) (by simp)
        exact gone_ok (inv_track (S6.unsuite ok) g1 hd4 hz4 g2 n0 nL nc npa) hN hi hln fun s7 J7 => ⟨_, _, J7, q6⟩
      | brk =>
        obtain ⟨_, _, _, z⟩ := hsp
        exact z.elim
      | cont =>
        obtain ⟨_, _, _, z⟩ := hsp
        exact z.elim
      | ret u =>
        obtain ⟨_, _, _, _, _, z⟩ := hsp
        exact z.elim
    | false =>
      show wpAny _ X.A (handleBy (.ref a) X.env []) _ _ _
      refine wpAny_handleBy_nil ?_
      obtain ⟨k1, k2, k3, oe, vs, T, oT, ts', he, hz, hd, h1, hr⟩ := id fl3
      unfold PySem.passOn
      refine wpAny_bind (wpAny_field he hd h1 ?_)
      have nt : ¬ ((Value.ref T == Value.none) = true) := by simp
      rw [if_neg nt]
      have fin : wpAny (model X.prog X.w) X.A (setFlight (.ref a) X.env.frame)
          (fun _ s4 => wpAny (model X.prog X.w) X.A (throw (.ref a) : Sem Flow) (SP X pins D) X.xe s4) X.xe { s' with heap := h3 } := by
        rw [hf]
        refine HandSPX.setFlight_upZ fl3 fun h4 hh4 up4 => wpAny_throw (tk _ _ ?_)
        exact ⟨a, B, sI, pins, σ', H', cls, d, rfl, J, nb, (up.trans up3).trans up4, .inr (.inr (by rw [hs]; exact hh4)), na, os, ag, hno rfl⟩
      first
        | exact wpAny_bind (wpAny_pure (wpAny_bind fin))
        | exact wpAny_bind fin
  · cases f with
    | next =>
      obtain ⟨σ', H', J', q⟩ := hsp
      exact wpAny_execs_nil ⟨σ', H', J'.ofTry ok, q⟩
    | brk =>
      obtain ⟨σ', H', J', q⟩ := hsp
      exact ⟨σ', H', J'.ofTry ok, q⟩
    | cont =>
      obtain ⟨σ', H', J', q⟩ := hsp
      exact ⟨σ', H', J'.ofTry ok, q⟩
    | ret u =>
      obtain ⟨v, σ', H', J', r, q⟩ := hsp
      exact ⟨v, σ', H', J'.ofTry ok, r, q⟩
end
end K1
set_option Elab.async false
set_option linter.all false
set_option maxRecDepth 100000
set_option maxHeartbeats 4000000
namespace PySem.W
open PySem PySem.Spec PySem.Calls PyProof.Rows
section
variable {pr : Program} {wd : World} {A : Around} {E : Value → Shared → Prop} {s : Shared} {F : Frag} {y C0 : Addr} {oy : Obj} {od : Option Obj}
theorem findObj_bindO {C1 : Addr} {nm : Str} {at_ gt : Value} (h1 : (clsIn F C1).isSome = true) (h2 : findIn F (.ref C1) nm = some (some at_)) (h3 : specialIn F at_ "__get__" = some (some gt)) (h4 : takesIn F at_ = some true) :
    findObj F C1 od nm = some (.bind gt at_) := by
  obtain ⟨cd, h1⟩ := Option.isSome_iff_exists.mp h1
  unfold findObj
  rw [h1, Option.bind_some, h2, Option.bind_some]
  simp [h3, h4]
/-- x.__class__ of an error, with or without a dict of its own -/
theorem err_class {Q : Option Value → Shared → Prop} (C : L2.ExcC F C0) (X : F.In s.heap) (I : InstAt s.heap y oy C0 od) (h : Q (some (.ref C0)) { s with toks := s.toks + 1 }) :
    wpAny (model pr wd) A (getAttr? (.ref y) "__class__") Q E s := by
  have some0 : (clsIn F C0).isSome = true := by
    obtain ⟨cd, hc, _⟩ := any_some C.hd
    rw [hc]
    rfl
  have hf := findObj_bindO (od := od) some0 C.ha C.hn C.ht
  obtain ⟨hp, gs, dr, tk, os⟩ := s
  have T0 := I.type (M := model pr wd)
  have T1 := looks_findIn (M := model pr wd) X C.hg
  have T2 := looks_findIn (M := model pr wd) X C.hk
  have T3 := looks_find (M := model pr wd) X I hf
  have below : Looks (model pr wd) hp (isInstance (.ref y) (.type "BaseException")) true := T0.andThen (looks_subIn X C.hs)
  have b0 : (false && onTheHeap (Value.builtin "BaseException.__getattribute__")) = false := rfl
  have b2 : (Value.builtin "BaseException.__getattribute__" == Value.builtin "object.__getattribute__") = false := by decide +kernel
  have b1 : (onTheHeap (Value.ref C0) && Value.builtin "BaseException.__getattribute__" == Value.builtin "object.__getattribute__") = false := by
    rw [b2]
    rfl
  unfold getAttr? getAttrBy? getAttrBy
  refine wpAny_bind (wpAny_mkText (wpAny_bind (wpAny_attempt (wpAny_holding (wpAny_bind (T0.at (wpAny_bind (T1.at ?_))))))))
  show wpAny _ _ (if (onTheHeap (Value.ref C0) && Value.builtin "BaseException.__getattribute__" == Value.builtin "object.__getattribute__") = true then _ else _) _ _ _
  rw [b1, if_neg Bool.false_ne_true]
  unfold getAttrByItsOwn hookBefore
  refine wpAny_bind ?_
  rw [if_pos (show onTheHeap (Value.ref C0) = true from rfl)]
  refine T2.at ?_
  refine wpAny_bind (wpAny_attempt (wpAny_holding ?_))
  unfold callGetattribute
  rw [b0, if_neg Bool.false_ne_true]
  unfold boundAndCalled
  rw [PySem.F.excAttr_ValueError.ga.bind (.ref y)]
  refine wpAny_bind (wpAny_pure ?_)
  show wpAny _ _ (call (.builtin "BaseException.__getattribute__") [.ref y, .str "__class__" tk]) _ _ _
  refine wpAny_call (codeAny_call_builtin PySem.F.excAttr_ValueError.ga.plain PySem.F.entry_bexc_ga ?_)
  refine @check_slot (model pr wd) _ _ ⟨hp, gs, dr, tk + 1, os⟩ "BaseException.__getattribute__" "BaseException" "__getattribute__" (.ref y) [.str "__class__" tk] [] _ (by decide +kernel) (by decide +kernel) below (PySem.F.args_bexc_ga (.ref y) (.str "__class__" tk)) ?_
  unfold Builtin.«object.__getattribute__»
  refine wpAny_bind (wpAny_of_eq (a := ((Value.ref y : Value), [Value.str "__class__" tk])) (by first | rfl | (simp only [slotArgs]; rfl)) ?_)
  refine wpAny_bind (wpAny_pure (wpAny_bind (T0.at (wpAny_bind (T3.at ?_)))))
  show wpAny _ _ (holding [Value.builtin "object.__class__"] (call (.builtin "getset_descriptor.__get__") [.builtin "object.__class__", .ref y, .ref C0]) >>= ret) _ _ _
  refine wpAny_bind (wpAny_holding (wpAny_call (class_get (s := ⟨hp, gs, dr, tk + 1, os⟩) (ox := oy) (od := od) X I C.hm ?_)))
  refine wpAny_pure ?_
  show wpAny _ _ (handedOut (.ref C0)) _ _ _
  rw [handedOut_of (v := .ref C0) rfl]
  first
    | exact wpAny_pure (wpAny_pure h)
    | exact wpAny_pure h
    | exact wpAny_pure (wpAny_bind (wpAny_pure (wpAny_pure h)))
theorem kitx_err (C : L2.ExcC F C0) : KitX F (.ref y) (.ref C0) (fun h => InstAt h y oy C0 od) where
  ty := fun _ _ _ I => I.type
  it := fun _ _ X _ => by
    obtain ⟨cd0, h0, _⟩ := any_some C.hd
    unfold clsIn at h0
    split at h0
    · rename_i c' d' cd' sl' ho
      intro A' Q' E' s' k q
      unfold isType loadHead
      exact wpAny_bind (wpAny_loadPart (k _ _ (X _ _ ho)) (wpAny_pure q))
    · cases h0
  ne := fun h tp dd its n sl X htp => by
    obtain ⟨cd0, h0, _⟩ := any_some C.hd
    refine Bool.eq_false_iff.mpr fun q => ?_
    cases Value.ref.inj (beq_iff_eq.mp q)
    unfold clsIn at h0
    split at h0
    · rename_i c' d' cd' sl' ho
      have z := (X _ _ ho).symm.trans htp
      cases z
    · cases h0
  ca := fun X I k => err_class C X I k
end
end PySem.W
namespace K1
open PySem PySem.Spec PyProof.Rows L2
/-- the dict of an error: none, or one that is tracked -/
def XDict (H : Hp) : Option Addr → Prop
  | none => True
  | some dd => ∃ fs, H dd = some (.xd fs)
section
variable {X : Cx}
theorem exc_inst {pins : List (Addr × Obj)} {σ : L2.St} {H : Hp} {s : Shared} (I : Inv X pins σ H s) {a D : Addr} {d : Option Addr} (ha : H a = some (ExcO a (.ref D) d)) (hd : XDict H d) : ∃ oe od, PySem.W.InstAt s.heap a oe D od := by
  obtain ⟨⟨oe, vs, e1, e2, e3⟩, _⟩ := (show ObjOk X.prog X.w H s.heap a (ExcO a (.ref D) d) from I.hok a _ ha)
  have nocls : PySem.W.notCls oe = true := by
    unfold PySem.W.notCls
    rw [e2]
  cases d with
  | none => exact ⟨oe, none, e1, e3.1, nocls, by rw [e3.2]; trivial⟩
  | some dd =>
    obtain ⟨fs, hfs⟩ := hd
    obtain ⟨mA, hns, _⟩ := (show ObjOk X.prog X.w H s.heap dd (.xd fs) from I.hok dd _ hfs)
    obtain ⟨od, ho, hl⟩ := lookIn_ns hns
    exact ⟨oe, some od, e1, e3.1, nocls, by rw [e3.2]; exact ho⟩
/-- isinstance(e, c) | isinstance(e, (c, ..)), e an error that is kept -/
def rIsX (K : PySem.W.Frag) : List V → Hp → VK → Prop := fun xs H Q => ∃ (a D : Addr) (d : Option Addr) (c : V) (u : Value) (b : Bool), xs = [.ref a, c] ∧ H a = some (ExcO a (.ref D) d) ∧ XDict H d ∧ ExcC K D ∧ ClsV c u ∧ PySem.W.kitOne K (.ref D) u = some b ∧ Q (.bl b) H
def rIsXT (K : PySem.W.Frag) : List V → Hp → VK → Prop := fun xs H Q => ∃ (a D tp : Addr) (d : Option Addr) (cs : List V) (us : List Value) (b : Bool), xs = [.ref a, .ref tp] ∧ H a = some (ExcO a (.ref D) d) ∧ XDict H d ∧ ExcC K D ∧ H tp = some (.tup cs) ∧ Paired ClsV cs us ∧ PySem.W.kitAny K (.ref D) us = some b ∧ Q (.bl b) H
theorem call_isX : CallR X (.builtin "isinstance") (rIsX X.K) := by
  intro pins s σ H xs us Q I r h
  obtain ⟨a, D, d, c, u, b, rfl, ha, hd, C, hc, e, q⟩ := h
  obtain ⟨oe, od, J⟩ := exc_inst I ha hd
  obtain ⟨u1, u2, rfl, r1, r2⟩ := vals2 r
  cases r1
  cases hc.eq r2
  exact PySem.W.kia_one (PySem.W.kitx_err (oy := oe) (od := od) C) I.kIn J e (fun z => nomatch z) fun tk => ⟨.bl b, H, I.tok tk, rfl, q⟩
theorem call_isXT : CallR X (.builtin "isinstance") (rIsXT X.K) := by
  intro pins s σ H xs us Q I r h
  obtain ⟨a, D, tp, d, cs, ws, b, rfl, ha, hd, C, hT, hc, e, q⟩ := h
  obtain ⟨oe, od, J⟩ := exc_inst I ha hd
  obtain ⟨u1, u2, rfl, r1, r2⟩ := vals2 r
  cases r1
  cases r2
  obtain ⟨_, its, rv, o, h1, h2, n, h3⟩ := (show ObjOk X.prog X.w H s.heap tp (.tup cs) from I.hok tp _ hT)
  cases ClsV.all hc rv
  obtain ⟨oc, od2, dt, sl⟩ := o
  dsimp only at h2 h3
  subst h2 h3
  exact PySem.W.kia_tup (PySem.W.kitx_err (oy := oe) (od := od) C) I.kIn J h1 e (fun z => nomatch z) fun tk => ⟨.bl b, H, I.tok tk, rfl, q⟩
/-- e.f, e an error that is kept -/
def tXk (K : PySem.W.Frag) (f : Str) (te : TE) : TE := fun σ H Q => te σ H fun x H1 => ∃ (a D dd : Addr) (fs : List (Str × V)) (v : V), x = .ref a ∧ H1 a = some (ExcO a (.ref D) (some dd)) ∧ H1 dd = some (.xd fs) ∧ XfC K D ∧ PySem.W.findIn K (.ref D) f = some none ∧ fs.lookup f = some v ∧ Q v H1
theorem pe_xk {e : Expr} {te : TE} {pos : Pos} {n : Str} (he : PE X e te) (hb : attributeBase e n X.env (eval e X.env) = eval e X.env := by rfl) : PE X (.Attribute e n pos) (tXk X.K n te) := by
  refine ⟨fun pins s σ H Q I h => attr_of hb (thn (he.run pins s σ H _ I h) fun u s1 hh => ?_)⟩
  obtain ⟨x, H1, I1, rx, a, D, dd, fs, v, ex, ea, ed, T, hno, l, q⟩ := hh
  subst ex
  cases rx
  obtain ⟨⟨oe, vs, e1, e2, e3⟩, _⟩ := (show ObjOk X.prog X.w H1 s1.heap a (ExcO a (.ref D) (some dd)) from I1.hok a _ ea)
  obtain ⟨mA, hns, hr⟩ := (show ObjOk X.prog X.w H1 s1.heap dd (.xd fs) from I1.hok dd _ ed)
  obtain ⟨od, ho, hl⟩ := lookIn_ns hns
  have hrn := hr n
  rw [l] at hrn
  obtain ⟨u, hu, ru⟩ := RelO.some_of (v := v) (o := mA n) hrn
  have J : PySem.W.InstAt s1.heap a oe D (some od) := ⟨e1, e3.1, by unfold PySem.W.notCls; rw [e2], by rw [e3.2]; exact ho⟩
  have hfo := PySem.W.findObj_own (od := od) T.hdC hno rfl (by rw [hl, hu])
  exact HandSPX.exc_get I1.kIn J T.ga T.gg T.exC hfo (handed_of ru) ⟨v, H1, I1.tok _, ru, q⟩
end
end K1
set_option Elab.async false
set_option linter.all false
set_option maxRecDepth 100000
set_option maxHeartbeats 4000000
namespace K1
open PySem PySem.Spec PyProof.Rows L2
open PySem.W (EachIs)
abbrev sTold : Stmt := topS 44
abbrev nTold : List Str := ["_law_phrase", "_law_found", "_law_error", "e", "_law_good"]
/-- what _law_told asks of NoText -/
structure RfT (mg : Str → Option Value) (K : PySem.W.Frag) (CE CT CP : Addr) : Prop where
  gE : mg "TurnError" = some (.ref CE)
  gT : mg "NoText" = some (.ref CT)
  gP : mg "NoPlan" = some (.ref CP)
  gV : mg "ValueError" = none
  ex : PySem.W.exmOne K (.ref CT) (.ref CE) = some true
  eT : ExcC K CT
  oT : PySem.W.kitOne K (.ref CT) (.ref CT) = some true
  nP : PySem.W.kitOne K (.ref CT) (.ref CP) = some false
  vE : PySem.W.kitOne K (.ref CT) (.type "ValueError") = some true
  xf : XfC K CT
  fa : PySem.W.findIn K (.ref CT) "row" = some none
def oR : Option G → G
  | some p => p
  | none => .o .none
def spTold (K : PySem.W.Frag) : Sp := fun vs H Q _ => ∃ (v : V) (g : G), vs = [v] ∧ In K H v g ∧ (∀ x, g = .s x → txB x = true) ∧ ∀ v' H', Same H H' → In K H' v' (oR (rdG g)) → Q v' H'
section
variable {P : Program} {w : World} {K : PySem.W.Frag} {mg : Str → Option Value} {base : Heap}
theorem scTold : FnScope nTold ["_law_phrase"] (defScope sTold) := ⟨rfl, rfl, rfl, by decide +kernel, rfl, by decide +kernel, by decide +kernel⟩
theorem ok_told {f fR CE CT CP : Addr} {fd fdR : FuncData} {m : Nat} (F : Fun K "_law_told" "_law_told" sTold f fd) (T : Ct mg) (R : RfT mg K CE CT CP) (FR : FnOk P w K mg base (L2.CX P w) m fR fdR ["text"] (spRead K CT)) (gR : mg "read_plan" = some (.ref fR)) (kR : PySem.W.keepIn K (.ref fR) = true) (bR : Binds K fdR ["text"] []) :
    FnOk P w K mg base C8.CX0 (m + 1) f fd ["_law_phrase"] (spTold K) := by
  refine F.ok scTold (fun vs H Q E h => ?_) (fun cdv A outer s H vs Q E hr h => ?_)
  · obtain ⟨v, g, rfl, _⟩ := h
    rfl
  · obtain ⟨v, g, rfl, hin, hx, k⟩ := h
    have hTE : Names (cxOf C8.CX0 P w K mg base nTold "_law_told" (defScope sTold) f cdv A outer s H E).nox "TurnError" (.ref CE) := ⟨rfl, by decide +kernel, .inl R.gE⟩
    refine ⟨_, pss_cons (ps_asg (pe_tup (pa_cons pe_non (pa_cons pe_non pa_nil))) (pg_tup rfl (pgs_cons (pg_name (i := 1) scTold.nd rfl (Or.inl rfl)) (pgs_cons (pg_name (i := 2) scTold.nd rfl (Or.inl rfl)) pgs_nil))))
      (pss_cons (ps_try_keep (i := 3) (c := .ref CE) (Wout := fun _ _ _ _ => False) (ts := fun _ _ _ => tAsg (tVar 3) (gName 2)) (tb := fun W D σ H => tAsg (tCallS (spRead K CT) (WE W) (tCons (tVar 0) tNil)) (gName 1) D σ H)
        rfl rfl scTold.nd rfl rfl hTE LamX.takes0 (fun W pn xe tk _ => ?_) (fun a oe cls d pn _ _ => pss_one (ps_set (i := 2) scTold.nd rfl (Or.inl rfl) (pv 3))))
      (pss_cons (ps_if (pt_cmp (pc_isN (pv 2))) (pss_one (ps_ret (pv 1))) pss_nil)
      (pss_cons (ps_set (i := 4) scTold.nd rfl (Or.inl rfl) (pe_and (pe_callB call_isX (by rfl) T.isi boot_isinstance (pa_cons (pv 2) (pa_cons (pe_glob (v := .ref CT) (by rfl) R.gT rfl) pa_nil)))
          (pe_and (pe_not (pe_callB call_isX (by rfl) T.isi boot_isinstance (pa_cons (pv 2) (pa_cons (pe_glob (v := .ref CP) (by rfl) R.gP rfl) pa_nil))))
          (pe_one (pe_callB call_isX (by rfl) T.isi boot_isinstance (pa_cons (pv 2) (pa_cons (pe_bltn (v := .ty "ValueError") (by rfl) R.gV boot_ValueError rfl) pa_nil)))))))
      (pss_one (ps_ret (pe_ifExp (PW.pt (pw_and (pt_val (pv 4)) (pw_and (pt_cmpR op_eq (pe_xk (pv 2)) pe_int (nomark _)) (pw_and1 (pt_not (pt_val (pe_callB call_isi (by rfl) T.isi boot_isinstance (pa_cons (pe_xk (pv 2)) (pa_cons (pe_bltn (v := .ty "bool") (by rfl) T.bool boot_bool rfl) pa_nil))))))))) pe_non pe_str)))))), ?_⟩
    · exact ⟨fun pins s' σ H' D I h' => (pss_one (ps_set (i := 1) scTold.nd rfl (Or.inl rfl) (pe_callS (x := ("read_plan" : Str)) (E := WE W) FR hr (by rfl) gR kR bR (passAt tk) (pa_cons (pv 0) pa_nil)))).run pins s' σ H' D I h'⟩
    · refine ⟨(by show 2 ≤ sizeLine; decide), fun p0 hp0 => ?_⟩
      have s00 := Same.new (o := .tup [.non, .non]) (Same.refl H) hp0
      refine ⟨p0, _, rfl, SqT.of upd_same, rfl, _, _, rfl, _, _, rfl, rfl, ?_⟩
      refine ⟨_, rfl, v, g, rfl, hin.same s00, hx, fun p hp v' H' sm hv _ _ => ?_, fun hn H' dd sm hdd => ?_⟩
      · refine ⟨_, rfl, true, rfl, iteT ⟨_, rfl, ?_⟩⟩
        exact k v' H' (s00.trans sm) (by rw [hp]; exact hv)
      · refine ⟨true, R.ex, fun _ a ha => ?_, fun z => Bool.noConfusion z⟩
        have sd := Same.new (o := .xd [(("row" : Str), .int 0)]) (s00.trans sm) hdd
        have sa := sd.trans (Same.new (o := ExcO a (.ref CT) (some dd)) (Same.refl _) ha)
        have ea : upd (upd H' dd (.xd [(("row" : Str), .int 0)])) a (ExcO a (.ref CT) (some dd)) a = some (ExcO a (.ref CT) (some dd)) := upd_same
        have ed := (Same.new (o := ExcO a (.ref CT) (some dd)) (Same.refl (upd H' dd (.xd [(("row" : Str), .int 0)]))) ha) _ _ upd_same
        refine ⟨_, rfl, ?_⟩
        refine ⟨_, rfl, false, rfl, iteF ?_⟩
        refine ⟨_, rfl, a, CT, some dd, _, _, true, rfl, ea, ⟨_, ed⟩, R.eT, .own CT, R.oT, true, rfl, iteT ?_⟩
        refine ⟨_, rfl, a, CT, some dd, _, _, false, rfl, ea, ⟨_, ed⟩, R.eT, .own CP, R.nP, false, rfl, true, rfl, iteT ?_⟩
        refine ⟨_, rfl, a, CT, some dd, _, _, true, rfl, ea, ⟨_, ed⟩, R.eT, .ty "ValueError", R.vE, ?_⟩
        refine ⟨_, rfl, true, rfl, iteT ?_⟩
        refine ⟨_, rfl, a, CT, dd, _, _, rfl, ea, ed, R.xf, R.fa, rfl, rfl, _, rfl, iteT ?_⟩
        refine ⟨_, rfl, a, CT, dd, _, _, rfl, ea, ed, R.xf, R.fa, rfl, _, _, _, _, _, rfl, .ty "bool", .base (.int 0), kit_bool (.int 0), _, rfl, iteT ?_⟩
        exact k .non _ sa (by rw [hn]; exact .non)
end
end K1
set_option Elab.async false
set_option linter.all false
set_option maxRecDepth 100000
set_option maxHeartbeats 4000000
namespace K1
open PySem PySem.Spec PyProof.Rows L2
open PySem.W (EachIs)
def repS (z : Str) (n : Nat) : Str := ⟨(List.replicate n z.cps).foldl (· ++ ·) #[]⟩
theorem rep_l (z : Str) (n : Nat) : ∀ acc : Array Nat, ((List.replicate n z.cps).foldl (· ++ ·) acc).toList.length = acc.toList.length + n * z.cps.toList.length ∧ ∀ c ∈ ((List.replicate n z.cps).foldl (· ++ ·) acc).toList, c ∈ acc.toList ∨ c ∈ z.cps.toList := by
  induction n with
  | zero => intro acc; exact ⟨by simp, fun c h => .inl h⟩
  | succ n ih =>
    intro acc
    obtain ⟨h1, h2⟩ := ih (acc ++ z.cps)
    rw [List.replicate_succ, List.foldl_cons]
    refine ⟨?_, fun c h => ?_⟩
    · rw [h1, Array.toList_append, List.length_append, Nat.succ_mul]
      omega
    · rcases h2 c h with h | h
      · rw [Array.toList_append] at h
        rcases List.mem_append.mp h with h | h
        · exact .inl h
        · exact .inr h
      · exact .inr h
theorem rep_len (z : Str) (n : Nat) : (repS z n).length = n * z.length := by
  have := (rep_l z n #[]).1
  rw [← len_toList, ← len_toList]
  simpa [repS] using this
theorem rep_ok {z : Str} (n : Nat) (h : PyData.strOk z = true) : PyData.strOk (repS z n) = true := strOk_iff.mpr fun c hc => by
  rcases (rep_l z n #[]).2 c hc with h2 | h2
  · cases h2
  · exact strOk_iff.mp h c h2
/-- text * n -/
def rMulS : R2 := fun x y H Q => ∃ (z : Str) (n : Nat), x = .str z ∧ y = .int n ∧ 2 ≤ n ∧ n ≤ 100 ∧ 0 < z.length ∧ z.length ≤ 100 ∧ Q (.str (repS z n)) H
theorem op_mulS {X : Cx} : OpR X (binaryOp .Mult) rMulS := by
  intro pins s σ H x y v u Q I rx ry h
  obtain ⟨z, n, rfl, rfl, h2, hn, hz, hl, q⟩ := h
  obtain ⟨t, rfl⟩ := rx
  obtain ⟨t', rfl⟩ := ry
  have c1 : ¬ (n : Int) < 1 := by omega
  have c2 : ((n : Int) == 1 || z.length == 0) = false := by
    have e1 : ((n : Int) == 1) = false := beq_eq_false_iff_ne.mpr (by omega)
    have e2 : (z.length == 0) = false := beq_eq_false_iff_ne.mpr (by omega)
    rw [e1, e2]
    rfl
  have bd : z.length * n ≤ 10000 := Nat.mul_le_mul hl hn
  refine P.mul_str ?_ (fun _ _ => ?_) (fun _ _ => ?_) ?_
  · have e1 : decide ((n : Int) < -(2 ^ 63 : Int)) = false := decide_eq_false (by omega)
    have e2 : decide ((n : Int) ≥ 2 ^ 63) = false := decide_eq_false (by omega)
    rw [e1, e2]
    rfl
  · have := Int.le_ediv_of_mul_le (a := (z.length : Int)) (b := 2 ^ 63 - 1) (c := (n : Int)) (by omega) (by
      have : ((z.length * n : Nat) : Int) ≤ 10000 := by omega
      rw [Int.natCast_mul] at this
      omega)
    omega
  · show decide (z.length * ((n : Int)).toNat > sizeLine) = false
    rw [Int.toNat_natCast]
    exact decide_eq_false (by rw [sizeLine_eq]; omega)
  · rw [if_neg c1, c2, if_neg Bool.false_ne_true, Int.toNat_natCast]
    refine ⟨?_, ?_⟩
    · show (repS z n).length ≤ sizeLine
      rw [rep_len, sizeLine_eq, Nat.mul_comm]
      omega
    · exact ⟨.str (repS z n), H, I.tok _, ⟨_, rfl⟩, q⟩
abbrev sGreat : Stmt := topS 45
abbrev nGreat : List Str := ["_law_state", "_law_size", "_law_level", "_law_pairs", "_law_k"]
theorem scGreat : FnScope nGreat ["_law_state"] (defScope sGreat) := ⟨rfl, rfl, rfl, by decide +kernel, rfl, by decide +kernel, by decide +kernel⟩
def mkP (a b : Str) : Str := Str.ofString "then(" ++ a ++ Str.ofString "," ++ b ++ Str.ofString ")"
def prs : Nat → List Str → List Str
  | m + 1, a :: b :: r => mkP a b :: prs m r
  | _, _ => []
theorem prs_len : ∀ (m : Nat) (ws : List Str), 2 * m ≤ ws.length → (prs m ws).length = m
  | 0, _, _ => by unfold prs; rfl
  | m + 1, [], h => by simp at h
  | m + 1, [a], h => by simp at h; omega
  | m + 1, a :: b :: r, h => by
    show (prs m r).length + 1 = m + 1
    rw [prs_len m r (by simp only [List.length_cons] at h; omega)]
theorem prs_get : ∀ (m : Nat) (ws : List Str) (i : Nat), 2 * m ≤ ws.length → i < m → ∃ a b, ws[2 * i]? = some a ∧ ws[2 * i + 1]? = some b ∧ (prs m ws)[i]? = some (mkP a b)
  | 0, _, i, _, h => by omega
  | m + 1, [], i, h, _ => by simp at h
  | m + 1, [a], i, h, _ => by simp at h; omega
  | m + 1, a :: b :: r, 0, _, _ => ⟨a, b, rfl, rfl, rfl⟩
  | m + 1, a :: b :: r, i + 1, h, hi => by
    obtain ⟨x, y, h1, h2, h3⟩ := prs_get m r i (by simp only [List.length_cons] at h; omega) (by omega)
    exact ⟨x, y, by rw [show 2 * (i + 1) = 2 * i + 1 + 1 by omega]; exact h1, by rw [show 2 * (i + 1) + 1 = 2 * i + 1 + 1 + 1 by omega]; exact h2, h3⟩
def lsum (ws : List Str) : Nat := (ws.map fun w => w.length + 7).sum
theorem mk_facts (a b : Str) : (mkP a b).length = a.length + b.length + 7 ∧ (PyData.strOk a = true → PyData.strOk b = true → PyData.strOk (mkP a b) = true) := by
  have l1 : (Str.ofString "then(").length = 5 := by decide +kernel
  have l2 : (Str.ofString ",").length = 1 := by decide +kernel
  have l3 : (Str.ofString ")").length = 1 := by decide +kernel
  have ap : ∀ x y : Str, PyData.strOk x = true → PyData.strOk y = true → PyData.strOk (x ++ y) = true := fun x y h1 h2 => strOk_iff.mpr fun c hc => by
    rw [app_l] at hc
    rcases List.mem_append.mp hc with hc | hc
    · exact strOk_iff.mp h1 c hc
    · exact strOk_iff.mp h2 c hc
  unfold mkP
  refine ⟨by rw [app_len, app_len, app_len, app_len, l1, l2, l3]; omega, fun h1 h2 => ?_⟩
  exact ap _ _ (ap _ _ (ap _ _ (ap _ _ (by decide +kernel) h1) (by decide +kernel)) h2) (by decide +kernel)
theorem prs_sum : ∀ (m : Nat) (ws : List Str), 2 * m ≤ ws.length → lsum (prs m ws ++ ws.drop (2 * m)) = lsum ws
  | 0, ws, _ => by unfold prs; simp
  | m + 1, [], h => by simp at h
  | m + 1, [a], h => by simp at h; omega
  | m + 1, a :: b :: r, h => by
    have ih := prs_sum m r (by simp only [List.length_cons] at h; omega)
    show lsum (mkP a b :: (prs m r ++ (a :: b :: r).drop (2 * (m + 1)))) = _
    rw [show 2 * (m + 1) = 2 * m + 1 + 1 by omega]
    show ((mkP a b).length + 7) + lsum (prs m r ++ r.drop (2 * m)) = (a.length + 7) + ((b.length + 7) + lsum r)
    rw [ih, (mk_facts a b).1]
    omega
theorem prs_ok : ∀ (m : Nat) (ws : List Str), (∀ w ∈ ws, PyData.strOk w = true) → ∀ w ∈ prs m ws, PyData.strOk w = true
  | 0, ws, _, w, hw => by unfold prs at hw; cases hw
  | m + 1, [], _, w, hw => by unfold prs at hw; cases hw
  | m + 1, [a], _, w, hw => by unfold prs at hw; cases hw
  | m + 1, a :: b :: r, h, w, hw => by
    rcases List.mem_cons.mp hw with rfl | hw
    · exact (mk_facts a b).2 (h a (by simp)) (h b (by simp))
    · exact prs_ok m r (fun w hw => h w (by simp [hw])) w hw
/-- the texts that wait -/
structure Lv (ws : List Str) : Prop where
  ne : ws ≠ []
  ok : ∀ w ∈ ws, PyData.strOk w = true
  sum : lsum ws ≤ 400
theorem lsum_mem {ws : List Str} {w : Str} (h : w ∈ ws) : w.length + 7 ≤ lsum ws := le_sum (List.mem_map.mpr ⟨w, h, rfl⟩)
theorem Lv.len {ws : List Str} (h : Lv ws) : ws.length ≤ 400 := by
  have := len_le_sum (ns := ws.map fun w => w.length + 7) fun n hn => by
    obtain ⟨w, _, rfl⟩ := List.mem_map.mp hn
    omega
  rw [List.length_map] at this
  have h2 := h.sum
  unfold lsum at h2
  omega
theorem Lv.step {ws : List Str} (h : Lv ws) {m : Nat} (hm : 2 * m ≤ ws.length) (h1 : 1 ≤ m) : Lv (prs m ws ++ ws.drop (2 * m)) := by
  refine ⟨fun z => ?_, fun w hw => ?_, by rw [prs_sum m ws hm]; exact h.sum⟩
  · have := congrArg List.length z
    rw [List.length_append, prs_len m ws hm] at this
    simp only [List.length_nil] at this
    omega
  · rcases List.mem_append.mp hw with hw | hw
    · exact prs_ok m ws h.ok w hw
    · exact h.ok w (List.mem_of_mem_drop hw)
def spGreat : Sp := fun vs H Q _ => ∃ (d g c : Addr) (t : Nat), vs = [.ref d] ∧ Gen d g c t H ∧ t + 5 < 2 ^ 30 ∧ ∀ (y : Str) (H' : Hp), txB y = true → Gen d g c (t + 2) H' → Kp d g H H' → Q (.str y) H'
def muG (σ : L2.St) (H : Hp) : Nat := match σ[2]? with
  | some (some (V.ref a)) => (match H a with
    | some (HO.lst xs) => xs.length
    | _ => 0)
  | _ => 0
theorem muG_eq {σ : L2.St} {H : Hp} {a : Addr} {xs : List V} (h1 : σ[2]? = some (some (V.ref a))) (h2 : H a = some (HO.lst xs)) : muG σ H = xs.length := by
  unfold muG
  rw [h1]
  simp only
  rw [h2]
section
variable {P : Program} {w : World} {K : PySem.W.Frag} {mg : Str → Option Value} {base : Heap}
theorem ok_great {f : Addr} {fd : FuncData} (F : Fun K "_law_great" "_law_great" sGreat f fd) (DT : Df P w K mg base C8.CX0 "_law_take" 2 ["_law_state", "_law_size"] spTake) (T : Ct mg) : FnOk P w K mg base C8.CX0 3 f fd ["_law_state"] spGreat := by
  refine F.ok scGreat (fun vs H Q E h => ?_) (fun cdv A outer s H vs Q E hr h => ?_)
  · obtain ⟨d, g, c, t, rfl, _⟩ := h
    rfl
  · obtain ⟨d, g, c, t, rfl, G, ht, k⟩ := h
    refine ⟨_, pss_cons (ps_if (pt_cmpR op_eq (pe_df DT hr pass0 (pa_cons (pv 0) (pa_cons pe_int pa_nil))) pe_int (nomark _))
        (pss_cons (ps_set (i := 1) scGreat.nd rfl (by first | exact Or.inl rfl | exact Or.inr rfl) (pe_op op_add pe_int (pe_df DT hr pass0 (pa_cons (pv 0) (pa_cons pe_int pa_nil)))))
        (pss_one (ps_ret (pe_op op_add_str (pe_op op_add_str (pe_op op_mulS pe_str (pe_op op_sub (pv 1) pe_int)) pe_str) (pe_op op_mulS pe_str (pe_op op_sub (pv 1) pe_int)))))) pss_nil)
      (pss_cons (ps_set (i := 1) scGreat.nd rfl (by first | exact Or.inl rfl | exact Or.inr rfl) (pe_op op_add pe_int (pe_df DT hr pass0 (pa_cons (pv 0) (pa_cons pe_int pa_nil)))))
      (pss_cons (ps_set (i := 2) scGreat.nd rfl (by first | exact Or.inl rfl | exact Or.inr rfl) (pe_op op_rep (pe_lst (pa_cons pe_str pa_nil)) (pe_op op_fdiv (pe_op op_add (pv 1) pe_int) pe_int)))
      (pss_cons (ps_while PassesOwn.never (pt_cmpR op_gt (pe_callB call_len_seq (by rfl) T.len PySem.boot_len (pa_cons (pv 2) pa_nil)) pe_int (nomark _))
        (pss_cons (ps_setLc (i := 3) (own := [("_law_k", 4)]) (g := gName 4) (tt := tYes) rfl scGreat.nd rfl rfl (sw_true rfl rfl rfl (by decide +kernel)) (pi_range1 rfl T.range (pa_cons (pe_op op_fdiv (pe_callB call_len_seq (by rfl) T.len PySem.boot_len (pa_cons (pv 2) pa_nil)) pe_int) pa_nil)) (blkOk_by (N := nGreat) (sc := defScope sGreat) (by decide +kernel)) (fun _ _ _ _ _ => pg_name (i := 4) scGreat.nd rfl (Or.inl rfl)) (fun _ _ _ _ _ => pts_nil)
            (fun _ _ _ _ _ => pe_op op_add_str (pe_op op_add_str (pe_op op_add_str (pe_op op_add_str pe_str (pe_ix (show IxR _ (rIxL K) from ix_list) (pv 2) (pe_op op_mul pe_int (pv 4)) (fun _ _ => rfl))) pe_str) (pe_ix (show IxR _ (rIxL K) from ix_list) (pv 2) (pe_op op_add (pe_op op_mul pe_int (pv 4)) pe_int) (fun _ _ => rfl))) pe_str))
        (pss_one (ps_set (i := 2) scGreat.nd rfl (by first | exact Or.inl rfl | exact Or.inr rfl) (pe_op op_cat (pv 3) (pe_slice sl_list (pv 2) (po_some (pe_op op_mul pe_int (pe_callB call_len_seq (by rfl) T.len PySem.boot_len (pa_cons (pv 3) pa_nil)))) po_none))))))
      (pss_one (ps_ret (pe_ifExp (pt_cmpR op_eq (pe_op op_mod (pv 1) pe_int) pe_int (nomark _)) (pe_ix ix_list (pv 2) pe_int (fun _ _ => rfl)) (pe_op op_add_str (pe_op op_add_str pe_str (pe_ix ix_list (pv 2) pe_int (fun _ _ => rfl))) pe_str))))))), ?_⟩
    have ap : ∀ x y : Str, PyData.strOk x = true → PyData.strOk y = true → PyData.strOk (x ++ y) = true := fun x y h1 h2 => strOk_iff.mpr fun c hc => by
      rw [app_l] at hc
      rcases List.mem_append.mp hc with hc | hc
      · exact strOk_iff.mp h1 c hc
      · exact strOk_iff.mp h2 c hc
    have tx : ∀ y : Str, PyData.strOk y = true → y.length ≤ 1000 → txB y = true := fun y h1 h2 => by
      unfold txB
      rw [decide_eq_true h2, h1]
      rfl
    refine ⟨_, rfl, d, g, c, t, 2, rfl, G, by omega, by decide, by decide, fun v H1 v0 v1 G1 k1 => ⟨rfl, _, rfl, ?_⟩⟩
    refine ite2 (fun _ => ?_) (fun _ => ?_)
    · refine ⟨_, rfl, d, g, c, _, 3, rfl, G1, by omega, by decide, by decide, fun u H2 u0 u1 G2 k2 => ⟨_, _, rfl, rfl, ?_⟩⟩
      obtain ⟨n, hn⟩ : ∃ n : Nat, (11 + u) - 1 = (n : Int) := ⟨((11 + u) - 1).toNat, by omega⟩
      have n1 : 10 ≤ n ∧ n ≤ 12 := by omega
      have l1 : (Str.ofString "not(").length = 4 := by decide +kernel
      have l2 : (Str.ofString "any").length = 3 := by decide +kernel
      have l3 : (Str.ofString ")").length = 1 := by decide +kernel
      have r1 := rep_len (Str.ofString "not(") n
      have r2 := rep_len (Str.ofString ")") n
      rw [l1] at r1
      rw [l3] at r2
      refine ⟨_, rfl, _, _, rfl, rfl, _, n, rfl, congrArg V.int hn, by omega, by omega, by omega, by omega, _, _, rfl, rfl, by rw [r1, l2, sizeLine_eq]; omega, _, rfl, _, _, rfl, rfl, _, n, rfl, congrArg V.int hn, by omega, by omega, by omega, by omega, _, _, rfl, rfl, by rw [app_len, r1, r2, l2, sizeLine_eq]; omega, ?_⟩
      refine k _ H2 (tx _ (ap _ _ (ap _ _ (rep_ok n (by decide +kernel)) (by decide +kernel)) (rep_ok n (by decide +kernel))) ?_) (G2.mono (by omega)) (k1.trans k2)
      rw [app_len, app_len, r1, r2, l2]
      omega
    · refine ⟨_, rfl, d, g, c, _, 5, rfl, G1, by omega, by decide, by decide, fun u H2 u0 u1 G2 k2 => ⟨_, _, rfl, rfl, ?_⟩⟩
      obtain ⟨n, hn⟩ : ∃ n : Nat, ((58 + u) + 1) / 2 = (n : Int) := ⟨(((58 + u) + 1) / 2).toNat, by omega⟩
      have n1 : 29 ≤ n ∧ n ≤ 32 := by omega
      refine ⟨(by show 1 ≤ sizeLine; decide), fun q hq => ⟨_, rfl, _, _, rfl, rfl, _, _, rfl, rfl, ⟨by decide, by decide⟩, q, n, _, rfl, congrArg V.int hn, upd_same, by omega, by omega, ?_, fun L hL => ?_⟩⟩
      · rw [Int.toNat_natCast, sizeLine_eq]
        simp only [List.length_cons, List.length_nil]
        omega
      have s3 := Same.new (o := .lst [.str (Str.ofString "stay")]) (Same.refl H2) hq
      have sL := Same.new (o := .lst (List.replicate (n : Int).toNat [V.str (Str.ofString "stay")]).flatten) s3 hL
      have erep : (List.replicate (n : Int).toNat [V.str (Str.ofString "stay")]).flatten = (List.replicate n (Str.ofString "stay")).map V.str := by
        rw [Int.toNat_natCast, List.map_replicate, List.flatten_replicate_singleton]
      have lv0 : Lv (List.replicate n (Str.ofString "stay")) := by
        have l4 : (Str.ofString "stay").length = 4 := by decide +kernel
        refine ⟨fun z => ?_, fun w hw => ?_, ?_⟩
        · have := congrArg List.length z
          rw [List.length_replicate] at this
          simp only [List.length_nil] at this
          omega
        · rw [List.eq_of_mem_replicate hw]
          decide +kernel
        · unfold lsum
          rw [List.map_replicate, List.sum_replicate_nat, l4]
          omega
      refine while_by (fun σ' H' => ∃ (L : Addr) (ws : List Str) (v3 v4 : Option V), σ' = [some (.ref d), some (.int (58 + u)), some (.ref L), v3, v4] ∧ H' L = some (.lst (ws.map V.str)) ∧ Lv ws ∧ Gen d g c (t + 2) H' ∧ Kp d g H H') muG
        ⟨L, _, none, none, rfl, by rw [upd_same, erep], lv0, (G2.same sL).mono (by omega), (k1.trans k2).trans (Kp.of sL)⟩ ?_ ?_
      · rintro σ H4 ⟨L, ws, v3, v4, rfl, eL, lv, G4, k4⟩
        have lw := lv.len
        have el : (ws.map V.str).length = ws.length := List.length_map _
        refine ⟨_, rfl, L, _, rfl, .inl (SqL.of eL), _, _, rfl, rfl, _, rfl, ?_⟩
        refine ite2 (fun hb => ?_) (fun hb => ?_)
        · have hb' : (1 : Int) < ((ws.map V.str).length : Int) := of_decide_eq_true hb
          rw [el] at hb'
          obtain ⟨m, hm⟩ : ∃ m : Nat, (((ws.map V.str).length : Nat) : Int) / 2 = (m : Int) := ⟨(((ws.map V.str).length : Nat) / 2), by omega⟩
          have hm2 : 2 * m ≤ ws.length := by rw [el] at hm; omega
          have hm1 : 1 ≤ m := by rw [el] at hm; omega
          have plen := prs_len m ws hm2
          refine ⟨_, rfl, L, _, rfl, .inl (SqL.of eL), _, _, rfl, rfl, ⟨by decide, by decide⟩, m, congrArg (fun z => [V.int z]) hm, by omega, by omega, fun D hD => ?_⟩
          have nLD : L ≠ D := fun z => by rw [← z, eL] at hD; cases hD
          rw [Int.toNat_natCast]
          refine lc_range (lo := 0) (n := m) (fun i H' => Same H4 H' ∧ H' D = some (.lst (((prs m ws).take i).map V.str))) ⟨Same.new (Same.refl H4) hD, upd_same⟩ ?_ ?_
          · rintro i H5 hi ⟨s5, eD⟩
            obtain ⟨a, b, ha, hb2, hab⟩ := prs_get m ws i hm2 hi
            have la := lsum_mem (List.mem_of_getElem? ha)
            have lb := lsum_mem (List.mem_of_getElem? hb2)
            have ls := lv.sum
            have e5 := s5 _ _ eL
            have at1 : atI (ws.map V.str) (2 * (0 + (i : Int))) = some (.str a) := by
              rw [show (2 * (0 + (i : Int))) = ((2 * i : Nat) : Int) by omega]
              exact atI_nat (by rw [List.getElem?_map, ha]; rfl)
            have at2 : atI (ws.map V.str) (2 * (0 + (i : Int)) + 1) = some (.str b) := by
              rw [show (2 * (0 + (i : Int)) + 1) = ((2 * i + 1 : Nat) : Int) by omega]
              exact atI_nat (by rw [List.getElem?_map, hb2]; rfl)
            have l1 : (Str.ofString "then(").length = 5 := by decide +kernel
            have l2 : (Str.ofString ",").length = 1 := by decide +kernel
            have l3 : (Str.ofString ")").length = 1 := by decide +kernel
            refine ⟨rfl, _, rfl, _, rfl, _, _, rfl, rfl, .inl ⟨by decide, by decide⟩, L, _, _, _, rfl, rfl, SqL.of e5, at1, _, _, rfl, rfl, by rw [l1, sizeLine_eq]; omega, _, _, rfl, rfl, by rw [app_len, l1, l2, sizeLine_eq]; omega, _, rfl, _, rfl, _, _, rfl, rfl, .inl ⟨by decide, by decide⟩, _, _, rfl, rfl, L, _, _, _, rfl, rfl, SqL.of e5, at2, _, _, rfl, rfl, by rw [app_len, app_len, l1, l2, sizeLine_eq]; omega, _, _, rfl, rfl, by rw [app_len, app_len, app_len, l1, l2, l3, sizeLine_eq]; omega, _, eD, ?_, same_J (H := H5) hD _ _ _ s5 eD, ?_⟩
            · rw [List.length_map, List.length_take, sizeLine_eq]
              omega
            · rw [upd_same, take_snoc hab, List.map_append]
              rfl
          · rintro H5 ⟨s5, eD⟩
            rw [List.take_of_length_le (by rw [plen]; exact Nat.le_refl _)] at eD
            have pl : ((prs m ws).map V.str).length = m := by rw [List.length_map, plen]
            refine ⟨_, rfl, _, rfl, _, rfl, D, _, rfl, .inl (SqL.of eD), _, _, rfl, rfl, .inl ⟨by decide, by decide⟩, _, rfl, L, _, rfl, SqL.of (s5 _ _ eL), fun q1 hq1 => ?_⟩
            have s6 := Same.new (o := .lst (cutV (ws.map V.str) (some (2 * (((prs m ws).map V.str).length : Int))) none)) (Same.refl H5) hq1
            have ecut : cutV (ws.map V.str) (some (2 * (((prs m ws).map V.str).length : Int))) none = (ws.drop (2 * m)).map V.str := by
              rw [pl, show (2 * (m : Int)) = ((2 * m : Nat) : Int) by omega, cut_1.cut_from' (by rw [el]; exact hm2), List.map_drop]
            refine ⟨D, q1, _, _, rfl, rfl, s6 _ _ eD, upd_same, ?_, fun L2 hL2 => ?_⟩
            · rw [ecut, List.length_map, List.length_map, plen, List.length_drop, sizeLine_eq]
              omega
            have s7 := Same.new (o := .lst ((prs m ws).map V.str ++ cutV (ws.map V.str) (some (2 * (((prs m ws).map V.str).length : Int))) none)) s6 hL2
            have e7 : (upd (upd H5 q1 (.lst (cutV (ws.map V.str) (some (2 * (((prs m ws).map V.str).length : Int))) none))) L2 (.lst ((prs m ws).map V.str ++ cutV (ws.map V.str) (some (2 * (((prs m ws).map V.str).length : Int))) none))) L2 = some (.lst ((prs m ws ++ ws.drop (2 * m)).map V.str)) := by
              rw [upd_same, ecut, List.map_append]
            refine ⟨⟨L2, prs m ws ++ ws.drop (2 * m), _, _, rfl, e7, lv.step hm2 hm1, G4.same (s5.trans s7), k4.trans (Kp.of (s5.trans s7))⟩, ?_⟩
            rw [muG_eq rfl e7, muG_eq rfl eL, List.length_map, List.length_map, List.length_append, plen, List.length_drop]
            omega
        · have hb' : ¬ (1 : Int) < ((ws.map V.str).length : Int) := fun z => hb (decide_eq_true z)
          rw [el] at hb'
          obtain ⟨y, rfl⟩ : ∃ y, ws = [y] := by
            cases ws with
            | nil => exact absurd rfl lv.ne
            | cons a r =>
              cases r with
              | nil => exact ⟨a, rfl⟩
              | cons b r => simp only [List.length_cons] at hb'; omega
          have ly := lsum_mem (ws := [y]) (w := y) (by simp)
          have ls := lv.sum
          have oy := lv.ok y (by simp)
          have l1 : (Str.ofString "not(").length = 4 := by decide +kernel
          have l3 : (Str.ofString ")").length = 1 := by decide +kernel
          refine ⟨_, rfl, _, _, rfl, rfl, (by show (0 : Int) < 2; decide), rfl, _, rfl, ?_⟩
          refine ite2 (fun _ => ?_) (fun _ => ?_)
          · exact ⟨_, rfl, L, _, 0, _, rfl, rfl, SqL.of eL, rfl, k y H4 (tx y oy (by omega)) G4 k4⟩
          · refine ⟨_, rfl, L, _, 0, _, rfl, rfl, SqL.of eL, rfl, _, _, rfl, rfl, by rw [l1, sizeLine_eq]; omega, _, _, rfl, rfl, by rw [app_len, l1, l3, sizeLine_eq]; omega, k _ H4 (tx _ (ap _ _ (ap _ _ (by decide +kernel) oy) (by decide +kernel)) (by rw [app_len, app_len, l1, l3]; omega)) G4 k4⟩
      · intro σ H Q Q' hq h
        obtain ⟨v, e1, a, n0, e2, e3, i0, j0, e4, e5, b, e6, q⟩ := h
        exact ⟨v, e1, a, n0, e2, e3, i0, j0, e4, e5, b, e6, hq _ _ q⟩
end
end K1
set_option Elab.async false
set_option linter.all false
set_option maxRecDepth 100000
set_option maxHeartbeats 8000000
namespace K1
open PySem PySem.Spec PyProof.Rows L2
open PySem.W (EachIs)
section
variable {X : Cx} {CX : CXT} {k n : Nat} {f : Addr} {fd : FuncData} {ps ks : List Str} {sp : Sp} {E : XK} {x : Str} {p pos : Pos} {kws : List Keyword} {tk : TA} {g : List Value → List Value → List Value} {gV : List V → List V → List V}
theorem passX : Passes (L2.CX X.prog X.w) X E0 := fun _ _ _ _ _ _ _ h => by
  obtain ⟨_, _, _, _, _, _, _, _, _, _, _, _, z⟩ := h
  exact z.elim
/-- f(k = v, ..): by name alone -/
theorem pe_callN0 (F : FnOk X.prog X.w X.K X.mg X.base CX k f fd ps sp) (hr : Room k X.A) (hg : Gl X x) (hm : X.mg x = some (.ref f)) (hk : PySem.W.keepIn X.K (.ref f) = true) (hb : KBn X.K fd ps 0 ks g gV) (hx : Passes CX X E) (hkw : PK X kws tk)
    (hall : (backToKw pos (keywordEach kws X.env)).all (·.1.isSome) = true := by rfl) (hks : (backToKw pos (keywordEach kws X.env)).filterMap (·.1) = ks := by rfl) (hdb : (x == ("__debug__" : Str)) = false := by decide)
    (hpl : ((backTo pos (starEach [] X.env)).any (·.1) || (backToKw pos (keywordEach kws X.env)).any (·.1.isNone)) = false := by rfl) :
    PE X (.Call (.Name x p) [] kws pos) (tCallN 0 ks.length sp gV E tNil tk) := by
  refine ⟨fun pins s σ H Q I h => ?_⟩
  refine wpAny_Call_Name_kw (ld_glob I hg hm ?_ hdb)
  refine PySem.W.callWith_KW0 (h₀ := X.base) I.ok.mod.kin hk hall ?_ hpl
  refine thn (hkw.run pos pins s σ H _ I h) fun ws s2 ⟨zs, H2, I2, rz, l1, l2, q2⟩ => ⟨I2.kIn, ?_⟩
  rw [hks]
  exact run_fnN (us := []) (vs := []) F hr hb hx I2 .nil rz rfl l2 q2
end
theorem kbn_one {K : PySem.W.Frag} {fd : FuncData} {y : Str} (h : ∀ v : Value, bindArgs fd ⟨[], [(y, v)]⟩ = pure [(y, v)]) : KBn K fd [y] 0 [y] (fun us ws => us ++ ws) (fun vs zs => vs ++ zs) :=
  ⟨fun s us ws _ l1 l2 => match us, ws, l1, l2 with | [], [v], _, _ => .of_eq (h v), fun r1 r2 => r1.append r2⟩
theorem oR_oG (r : Option G) : oR r = oG r := by cases r <;> rfl
theorem Xs.same {f : Addr} {H H' : Hp} {o : HO} (hf : H f = none) (x : Xs f (upd H f o) H') : Same H H' := fun b u e => x b u (ne_of_none e hf) (by rw [upd_ne (ne_of_none e hf)]; exact e)
abbrev sLaw : Stmt := topS 46
abbrev nLaw : List Str := ["_law_script", "_law_state", "_law_titles_here", "_law_names", "_law_turn", "_law_scheme", "_law_phrase", "_law_good", "_law_change"]
theorem scLaw : FnScope nLaw ["_law_script"] (defScope sLaw) := ⟨rfl, rfl, rfl, by decide +kernel, rfl, by decide +kernel, by decide +kernel⟩
def spLaw (K : PySem.W.Frag) : Sp := fun vs H Q _ => ∃ (a : Addr) (ns : List Int), vs = [.ref a] ∧ SqL K H a (ns.map V.int) ∧ ns.length ≤ 63 ∧ ∀ H', Q (.bl true) H'
theorem rd_empty : rdP Str.empty = none := by
  rw [rd_rl]
  have et : TL.tl oP = 40 :: [] := by decide +kernel
  have hp := TL.partition_none (y := oP) (a := Str.empty) et (by decide +kernel)
  rw [rl_nos (l := 11) hp (by decide) rfl]
  rfl
/-- of a drawn scheme's text: read only as itself -/
theorem sch_read {h : Nat} {g : G} (s : Sch h g) (hh : h ≤ 6) : ((rl 12 (text g) 60).1 = none) ∨ ((rl 12 (text g) 60).1 = some g ∧ isPl g = true) := by
  cases e : (rl 12 (text g) 60).1 with
  | none => exact .inl rfl
  | some p =>
    right
    obtain ⟨h1, h2⟩ := rl_iff.mp e
    have : p = g := plan_inj (Bool.and_eq_true_iff.mp h1).1 (planB_le (by omega) s.pl) h2
    rw [this] at h1
    exact ⟨by rw [this], h1⟩
section
variable {P : Program} {w : World} {K : PySem.W.Frag} {mg : Str → Option Value} {base : Heap}
theorem ok_law {f fPT fRP CT : Addr} {fd fdPT fdRP : FuncData} {m : Nat} (F : Fun K "law" "law" sLaw f fd) (T : Ct mg)
    (DB : Df P w K mg base C8.CX0 "_law_begun" 1 ["_law_script"] (spBegun K)) (DTi : Df P w K mg base C8.CX0 "_law_titles" 4 ["_law_state", "_law_size"] spTitles) (DW : Df P w K mg base C8.CX0 "_law_words" 3 ["_law_state", "_law_size"] spWords)
    (DPl : Df P w K mg base C8.CX0 "_law_plan" m ["_law_state", "_law_titles_here", "_law_names", "_law_height"] (spPlan K 6)) (DTk : Df P w K mg base C8.CX0 "_law_take" 2 ["_law_state", "_law_size"] spTake)
    (DSa : Df P w K mg base C8.CX0 "_law_said" m ["_law_scheme"] (spTx K 6)) (DRe : Df P w K mg base C8.CX0 "_law_read" m ["_law_phrase", "_law_within", "_law_left"] (spLR K 12))
    (FPT : FnOk P w K mg base C8.CX0 m fPT fdPT ["plan"] (spPT K)) (gPT : mg "plan_text" = some (.ref fPT)) (kPT : PySem.W.keepIn K (.ref fPT) = true) (bPT : KBn K fdPT ["plan"] 0 ["plan"] (fun us ws => us ++ ws) (fun vs zs => vs ++ zs))
    (FRP : FnOk P w K mg base (L2.CX P w) m fRP fdRP ["text"] (spRead K CT)) (gRP : mg "read_plan" = some (.ref fRP)) (kRP : PySem.W.keepIn K (.ref fRP) = true) (bRP : KBn K fdRP ["text"] 0 ["text"] (fun us ws => us ++ ws) (fun vs zs => vs ++ zs))
    (DTo : Df P w K mg base C8.CX0 "_law_told" m ["_law_phrase"] (spTold K)) (DOt : Df P w K mg base C8.CX0 "_law_otherwise" 4 ["_law_state", "_law_phrase"] spOther) (DGr : Df P w K mg base C8.CX0 "_law_great" 3 ["_law_state"] spGreat)
    (DPi : Df P w K mg base C8.CX0 "_law_pick" 3 ["_law_state", "_law_some"] spPick) (hm : 4 ≤ m) : FnOk P w K mg base C8.CX0 (m + 1) f fd ["_law_script"] (spLaw K) := by
  refine F.ok scLaw (fun vs H Q E h => ?_) (fun cdv A outer s H vs Q E hr h => ?_)
  · obtain ⟨a, ns, rfl, _⟩ := h
    rfl
  · obtain ⟨a, ns, rfl, hS, hl, k⟩ := h
    have hr4 : Room 4 _ := hr.mono hm
    have hr3 : Room 3 _ := hr.mono (by omega)
    have hr2 : Room 2 _ := hr.mono (by omega)
    have hr1 : Room 1 _ := hr.mono (by omega)
    have u64 := units64 hr
    refine ⟨_, pss_cons (ps_set (i := 1) scLaw.nd rfl (by first | exact Or.inl rfl | exact Or.inr rfl) (pe_df DB hr1 pass0 (pa_cons (pv 0) pa_nil)))
      (pss_cons (ps_par (i := 2) (j := 3) (by rfl) scLaw.nd rfl rfl (by decide) rfl rfl (pa_cons (pe_df DTi hr4 pass0 (pa_cons (pv 1) (pa_cons pe_int pa_nil))) (pa_cons (pe_df DW hr3 pass0 (pa_cons (pv 1) (pa_cons pe_int pa_nil))) pa_nil)) (by rfl))
      (pss_cons (ps_for PassesOwn.never rfl (pi_range1 (by rfl) T.range (pa_cons pe_int pa_nil)) (pg_name (i := 4) scLaw.nd rfl (by first | exact Or.inl rfl | exact Or.inr rfl))
        (pss_cons (ps_set (i := 5) scLaw.nd rfl (by first | exact Or.inl rfl | exact Or.inr rfl) (pe_df DPl hr pass0 (pa_cons (pv 1) (pa_cons (pv 2) (pa_cons (pv 3) (pa_cons (pe_op op_add pe_int (pe_df DTk hr2 pass0 (pa_cons (pv 1) (pa_cons pe_int pa_nil)))) pa_nil)))) (Nat.le_refl _)))
      (pss_cons (ps_set (i := 6) scLaw.nd rfl (by first | exact Or.inl rfl | exact Or.inr rfl) (pe_df DSa hr pass0 (pa_cons (pv 5) pa_nil) (Nat.le_refl _)))
      (C8.pss_cut (ps_set (i := 7) scLaw.nd rfl (by first | exact Or.inl rfl | exact Or.inr rfl) (pe_cmp (pc_notN (pe_df DRe hr pass0 (pa_cons (pv 6) (pa_cons pe_int (pa_cons (pe_lst (pa_cons pe_int pa_nil)) pa_nil))) (Nat.le_refl _)))))
      (C8.pss_cut (ps_if (PW.pt (pw_and (pt_val (pv 7)) (pw_and1 (PW.pt (pw_or (pt_cmpR op_ne (pe_callN0 FPT hr (by rfl) gPT kPT bPT pass0 (pk_cons (pv 5) pk_nil)) (pv 6) (nomark _)) (pw_or1 (pt_cmpR (op_neD u64) (pe_callN0 FRP hr (by rfl) gRP kRP bRP passX (pk_cons (pv 6) pk_nil)) (pv 5) (nomark _)))))))) (pss_one (ps_ret pe_bl)) pss_nil)
      (C8.pss_cut (ps_if (PW.pt (pw_and (pt_val (pv 7)) (pw_and1 (pt_cmpR (op_neD u64) (pe_df DTo hr pass0 (pa_cons (pv 6) pa_nil) (Nat.le_refl _)) (pv 5) (nomark _))))) (pss_one (ps_ret pe_bl)) pss_nil)
      (pss_one (ps_for PassesOwn.never rfl (pi_range1 (by rfl) T.range (pa_cons pe_int pa_nil)) (pg_name (i := 8) scLaw.nd rfl (by first | exact Or.inl rfl | exact Or.inr rfl))
        (pss_cons (ps_set (i := 6) scLaw.nd rfl (by first | exact Or.inl rfl | exact Or.inr rfl) (pe_df DOt hr4 pass0 (pa_cons (pv 1) (pa_cons (pv 6) pa_nil))))
      (pss_one (ps_if (pt_cmpR (op_neD u64) (pe_df DTo hr pass0 (pa_cons (pv 6) pa_nil) (Nat.le_refl _)) (pe_df DRe hr pass0 (pa_cons (pv 6) (pa_cons pe_int (pa_cons (pe_lst (pa_cons pe_int pa_nil)) pa_nil))) (Nat.le_refl _)) (nomark _)) (pss_one (ps_ret pe_bl)) pss_nil)))))))))))
      (pss_cons (ps_set (i := 6) scLaw.nd rfl (by first | exact Or.inl rfl | exact Or.inr rfl) (pe_df DGr hr3 pass0 (pa_cons (pv 1) pa_nil)))
      (pss_cons (ps_if (pt_cmpR (op_neD u64) (pe_df DTo hr pass0 (pa_cons (pv 6) pa_nil) (Nat.le_refl _)) (pe_df DRe hr pass0 (pa_cons (pv 6) (pa_cons pe_int (pa_cons (pe_lst (pa_cons pe_int pa_nil)) pa_nil))) (Nat.le_refl _)) (nomark _)) (pss_one (ps_ret pe_bl)) pss_nil)
      (pss_one (ps_ret (pe_cmp (pc_isN (pe_df DTo hr pass0 (pa_cons (pe_df DPi hr3 pass0 (pa_cons (pv 1) (pa_cons (pe_lst (pa_cons pe_non (pa_cons pe_int (pa_cons pe_bl (pa_cons (pe_lst pa_nil) (pa_cons (pe_lst (pa_cons pe_str pa_nil)) (pa_cons (pe_tup (pa_cons pe_str pa_nil)) (pa_cons pe_dnewK (pa_cons pe_str (pa_cons (pe_tup (pa_cons pe_str pa_nil)) pa_nil)))))))))) pa_nil))) pa_nil) (Nat.le_refl _)))))))))), ?_⟩
    --READ
    have hdec : ∀ v : V, ∀ (b : Bool), (b = true → v = .non) → decide (v = .non) = false → b = false := fun v b h1 h2 => by
      cases b with
      | false => rfl
      | true => rw [h1 rfl] at h2; simp at h2
    refine ⟨_, rfl, a, ns, rfl, hS, hl, fun d g c H0 G0 s0 hd hg => ?_⟩
    refine ⟨_, rfl, d, g, c, 0, rfl, G0, by omega, fun tl ts H1 htl etl1 l1 at1 G1 k1 => ?_⟩
    refine ⟨_, rfl, d, g, c, _, 4, rfl, G1, by omega, by omega, fun nl ns H2 l2 nn an enl2 hnl G2 k2 => ⟨_, _, rfl, ?_⟩⟩
    obtain ⟨td, tg⟩ := G0.nd htl
    obtain ⟨nd, ng⟩ := G1.nd hnl
    have etl2 := k2 tl _ td tg etl1
    have an' : ∀ x ∈ ns, nameB x = true := fun x hx => nm_name (an x hx)
    have rdS : ∀ y : Str, rdG (.s y) = (rl 12 y 60).1 := fun y => rd_rl y
    have cmp : ∀ (y : Str) (v1 : V) (Ha Hb : Hp) (v2 : V) (Q' : VK), txB y = true → Same Ha Hb → In K Ha v1 (oR (rdG (.s y))) → In K Hb v2 (oG (rl 12 y 60).1) → Q' (.bl false) Hb → rNeD K v1 v2 Hb Q' := fun y v1 Ha Hb v2 Q' ty sm i1 i2 q => by
      have gdy := rl_gd (l := 12) (x := y) (k := 60) (Nat.le_refl _) ty
      rw [rdS, oR_oG] at i1
      refine ne_gog (i1.same sm) i2 gdy.1 gdy.1 (by omega) (by omega) ?_
      rw [decide_eq_true rfl]
      exact q
    refine ⟨4, rfl, by decide, by decide, for_range (lo := 0) (n := 4) (fun i σ H' => ∃ (v4 v5 v6 v7 v8 : Option V), σ = [some (.ref a), some (.ref d), some (.ref tl), some (.ref nl), v4, v5, v6, v7, v8] ∧ Gen d g c (140 + 200 * i) H' ∧ H' tl = some (.lst (ts.map V.str)) ∧ H' nl = some (.lst (ns.map V.str)))
      ⟨none, none, none, none, none, rfl, G2.mono (by omega), etl2, enl2⟩ ?_ ?_⟩
    · rintro i σ H3 hi ⟨v4, v5, v6, v7, v8, rfl, G3, etl3, enl3⟩
      refine ⟨_, rfl, _, rfl, _, rfl, _, rfl, d, g, c, _, 6, rfl, G3, by omega, by decide, by decide, fun u H4 u0 u1 G4 k4 => ⟨_, _, rfl, rfl, ?_⟩⟩
      obtain ⟨h, hh⟩ : ∃ h : Nat, 1 + u = (h : Int) := ⟨(1 + u).toNat, by omega⟩
      have hh1 : 1 ≤ h ∧ h ≤ 6 := by omega
      have hpow := Nat.pow_le_pow_right (show 0 < 2 by decide) (show h + 1 ≤ 7 by omega)
      have hpow6 := Nat.pow_le_pow_right (show 0 < 2 by decide) (show h ≤ 6 by omega)
      have etl4 := k4 tl _ td tg etl3
      have enl4 := k4 nl _ nd ng enl3
      refine ⟨d, g, c, tl, nl, _, h, ts, ns, (by show [V.ref d, V.ref tl, V.ref nl, V.int (1 + u)] = _; rw [hh]), G4, by omega, hh1.1, hh1.2, Nat.le_refl _, etl4, enl4, td, tg, nd, ng, l1, l2, at1, an', fun v p H5 iv sv G5 k5 => ?_⟩
      have etl5 := k5 tl _ td tg etl4
      have enl5 := k5 nl _ nd ng enl4
      have tlen := sv.len
      have htx := sv.tx hh1.2
      have hgd := sv.gd hh1.2
      have hdp : dp p ≤ 7 := by
        have := (gd_plan h p sv.pl htx).2
        omega
      have hsz := sv.sz
      refine ⟨_, rfl, v, p, h, rfl, iv, hh1.2, sv.pl, by omega, fun H6 s6 => ?_⟩
      have txs : ∀ x : Str, (G.s (text p)) = .s x → txB x = true := fun x e => by cases e; exact htx
      refine ⟨fun σ' H' => ∃ b : Bool, σ' = [some (.ref a), some (.ref d), some (.ref tl), some (.ref nl), some (.int (0 + (i : Int))), some v, some (.str (text p)), some (.bl b), v8] ∧ Gen d g c (140 + 200 * i + 130) H' ∧ H' tl = some (.lst (ts.map V.str)) ∧ H' nl = some (.lst (ns.map V.str)) ∧ In K H' v p ∧ (b = true → (rl 12 (text p) 60).1 = some p ∧ isPl p = true), ?_, ?_⟩
      · refine ⟨_, rfl, (by show 1 ≤ sizeLine; decide), fun lf hlf => ⟨text p, 1, 12, 60, lf, rfl, by decide, Nat.le_refl _, Nat.le_refl _, upd_same, htx, fun v7 H7 x7 el7 i7 => ?_⟩⟩
        have s7 := s6.trans (Xs.same hlf x7)
        refine ⟨!decide (v7 = .non), rfl, (G5.same s7).mono (by omega), s7 _ _ etl5, s7 _ _ enl5, iv.same s7, fun hb => ?_⟩
        rcases sch_read sv hh1.2 with e | e
        · rw [e] at i7
          exfalso
          have : v7 = .non := by cases i7; rfl
          rw [this] at hb
          simp at hb
        · exact e
      · rintro σ' H7 ⟨b, rfl, G7, etl7, enl7, iv7, hb⟩
        refine ⟨fun σ' H' => ∃ b : Bool, σ' = [some (.ref a), some (.ref d), some (.ref tl), some (.ref nl), some (.int (0 + (i : Int))), some v, some (.str (text p)), some (.bl b), v8] ∧ Gen d g c (140 + 200 * i + 130) H' ∧ H' tl = some (.lst (ts.map V.str)) ∧ H' nl = some (.lst (ns.map V.str)) ∧ In K H' v p ∧ (b = true → (rl 12 (text p) 60).1 = some p ∧ isPl p = true), ?_, ?_⟩
        · refine ⟨_, rfl, b, rfl, ?_⟩
          cases b with
          | false => exact iteF_ Bool.false_ne_true (iteF_ Bool.false_ne_true ⟨false, rfl, G7, etl7, enl7, iv7, fun z => by cases z⟩)
          | true =>
            obtain ⟨e1, e2⟩ := hb rfl
            refine iteT_ rfl ?_
            refine ⟨_, rfl, rfl, rfl, v, p, rfl, iv7, hgd, by omega, e2, by omega, fun H8 s8 => ?_⟩
            refine ⟨_, rfl, rfl, _, rfl, iteF_ (by simp) ?_⟩
            refine ⟨_, rfl, rfl, rfl, .str (text p), .s (text p), rfl, .s _, txs, fun p' hp' v' H9 s9 iv9 _ _ => ?_, fun hn => by rw [rdS, e1] at hn; cases hn⟩
            rw [rdS, e1] at hp'
            obtain rfl := Option.some.inj hp'
            have sA := s8.trans s9
            refine ⟨_, rfl, ne_gog iv9 (iv7.same sA) hgd hgd (by omega) (by omega) ⟨_, rfl, iteF_ (by simp) ?_⟩⟩
            exact ⟨true, rfl, G7.same sA, sA _ _ etl7, sA _ _ enl7, iv7.same sA, fun _ => ⟨e1, e2⟩⟩
        · rintro σ' H8 ⟨b, rfl, G8, etl8, enl8, iv8, hb⟩
          refine ⟨fun σ' H' => ∃ b : Bool, σ' = [some (.ref a), some (.ref d), some (.ref tl), some (.ref nl), some (.int (0 + (i : Int))), some v, some (.str (text p)), some (.bl b), v8] ∧ Gen d g c (140 + 200 * i + 130) H' ∧ H' tl = some (.lst (ts.map V.str)) ∧ H' nl = some (.lst (ns.map V.str)), ?_, ?_⟩
          · refine ⟨_, rfl, b, rfl, ?_⟩
            cases b with
            | false => exact iteF_ Bool.false_ne_true (iteF_ Bool.false_ne_true ⟨false, rfl, G8, etl8, enl8⟩)
            | true =>
              obtain ⟨e1, e2⟩ := hb rfl
              refine iteT_ rfl ?_
              refine ⟨_, rfl, .str (text p), .s (text p), rfl, .s _, txs, fun v' H9 s9 iv9 => ?_⟩
              rw [rdS, e1] at iv9
              refine ⟨_, rfl, ne_gog iv9 (iv8.same s9) hgd hgd (by show dp p ≤ 60; omega) (by omega) ⟨_, rfl, iteF_ (by simp [oR]) ?_⟩⟩
              exact ⟨true, rfl, G8.same s9, s9 _ _ etl8, s9 _ _ enl8⟩
          · rintro σ' H9 ⟨b, rfl, G9, etl9, enl9⟩
            refine ⟨3, rfl, by decide, by decide, for_range (lo := 0) (n := 3) (fun j σ H' => ∃ (v8 : Option V) (y : Str), σ = [some (.ref a), some (.ref d), some (.ref tl), some (.ref nl), some (.int (0 + (i : Int))), some v, some (.str y), some (.bl b), v8] ∧ Gen d g c (140 + 200 * i + 130 + 10 * j) H' ∧ H' tl = some (.lst (ts.map V.str)) ∧ H' nl = some (.lst (ns.map V.str)) ∧ PyData.strOk y = true ∧ y.length ≤ 953 + j)
              ⟨v8, text p, rfl, G9.mono (by omega), etl9, enl9, sv.ok, by omega⟩ ?_ ?_⟩
            · rintro j σ Ha hj ⟨w8, y, rfl, Ga, etla, enla, oy, ly⟩
              refine ⟨_, rfl, _, rfl, d, g, c, _, y, rfl, Ga, by omega, oy, by omega, fun z Hb oz lz Gb kb => ?_⟩
              have tz : txB z = true := by
                unfold txB
                rw [decide_eq_true (by omega), oz]
                rfl
              refine ⟨_, rfl, .str z, .s z, rfl, .s _, fun x e => by cases e; exact tz, fun v1 Hc sc i1 => ?_⟩
              refine ⟨_, rfl, (by show 1 ≤ sizeLine; decide), fun lf hlf => ⟨z, 1, 12, 60, lf, rfl, by decide, Nat.le_refl _, Nat.le_refl _, upd_same, tz, fun v2 Hd xd eld i2 => ?_⟩⟩
              have sd := Xs.same hlf xd
              have sA := sc.trans sd
              refine cmp z v1 Hc Hd v2 _ tz sd i1 i2 ⟨_, rfl, iteF_ Bool.false_ne_true ?_⟩
              exact ⟨_, z, rfl, (Gb.same sA).mono (by omega), sA _ _ (kb tl _ td tg etla), sA _ _ (kb nl _ nd ng enla), oz, by omega⟩
            · rintro σ Ha ⟨w8, y, rfl, Ga, etla, enla, oy, ly⟩
              exact ⟨_, _, _, _, _, rfl, Ga.mono (by omega), etla, enla⟩
    · rintro σ H3 ⟨v4, v5, v6, v7, v8, rfl, G3, etl3, enl3⟩
      refine ⟨_, rfl, d, g, c, _, rfl, G3, by omega, fun z Hb tz Gb kb => ?_⟩
      refine ⟨_, rfl, .str z, .s z, rfl, .s _, fun x e => by cases e; exact tz, fun v1 Hc sc i1 => ?_⟩
      refine ⟨_, rfl, (by show 1 ≤ sizeLine; decide), fun lf hlf => ⟨z, 1, 12, 60, lf, rfl, by decide, Nat.le_refl _, Nat.le_refl _, upd_same, tz, fun v2 Hd xd eld i2 => ?_⟩⟩
      have sd := Xs.same hlf xd
      refine cmp z v1 Hc Hd v2 _ tz sd i1 i2 ⟨_, rfl, iteF_ Bool.false_ne_true ?_⟩
      have Gd := (Gb.same sc).same sd
      refine ⟨_, rfl, (by show 0 ≤ sizeLine; decide), fun a1 h1 => ⟨(by show 1 ≤ sizeLine; decide), fun a2 h2 => ⟨(by show 1 ≤ sizeLine; decide), fun a3 h3 a4 h4 => ⟨(by show 1 ≤ sizeLine; decide), fun a5 h5 => ⟨(by show 9 ≤ sizeLine; decide), fun l0 hl0 => ?_⟩⟩⟩⟩⟩
      have t1 := Same.new (o := .lst []) (Same.refl Hd) h1
      have t2 := Same.new (o := .lst [.str (Str.ofString "any")]) (Same.refl _) h2
      have t3 := Same.new (o := .tup [.str (Str.ofString "any")]) (Same.refl _) h3
      have t4 := Same.new (o := .dK []) (Same.refl _) h4
      have t5 := Same.new (o := .tup [.str (Str.ofString "stay")]) (Same.refl _) h5
      have t6 := Same.new (o := .lst [.non, .int 5, .bl true, .ref a1, .ref a2, .ref a3, .ref a4, .str (Str.ofString ""), .ref a5]) (Same.refl _) hl0
      have z1 := t6 _ _ (t5 _ _ (t4 _ _ (t3 _ _ (t2 _ _ upd_same))))
      have z2 := t6 _ _ (t5 _ _ (t4 _ _ (t3 _ _ upd_same)))
      have z3 := t6 _ _ (t5 _ _ (t4 _ _ upd_same))
      have z4 := t6 _ _ (t5 _ _ upd_same)
      have z5 := t6 _ _ upd_same
      have GA := (((((Gd.same t1).same t2).same t3).same t4).same t5).same t6
      have n1 := Gd.nd h1
      have n2 := (Gd.same t1).nd h2
      have n3 := ((Gd.same t1).same t2).nd h3
      have n4 := (((Gd.same t1).same t2).same t3).nd h4
      have n5 := ((((Gd.same t1).same t2).same t3).same t4).nd h5
      have n6 := (((((Gd.same t1).same t2).same t3).same t4).same t5).nd hl0
      refine ⟨d, g, c, l0, _, _, rfl, GA, by omega, upd_same, n6.2, by simp, by simp, fun x He hx Ge ke => ?_⟩
      obtain ⟨gx, ix, tx, rx⟩ : ∃ gx, In K He x gx ∧ (∀ y, gx = .s y → txB y = true) ∧ rdG gx = none := by
        have te : txB Str.empty = true := by decide +kernel
        simp only [List.mem_cons, List.not_mem_nil, or_false] at hx
        rcases hx with rfl | rfl | rfl | rfl | rfl | rfl | rfl | rfl | rfl
        · exact ⟨.o .none, .non, (fun y e => by cases e), rfl⟩
        · exact ⟨.o (.int 5), .int 5, (fun y e => by cases e), rfl⟩
        · exact ⟨.o (.bool true), .bl true, (fun y e => by cases e), rfl⟩
        · exact ⟨.l [], .lst (ke _ _ n1.1 n1.2 z1) .nil, (fun y e => by cases e), rfl⟩
        · exact ⟨.l [.s (Str.ofString "any")], .lst (ke _ _ n2.1 n2.2 z2) (.cons (.s _) .nil), (fun y e => by cases e), rfl⟩
        · exact ⟨.t [.s (Str.ofString "any")], .t (SqT.of (ke _ _ n3.1 n3.2 z3)) (.cons (.s _) .nil), (fun y e => by cases e), rfl⟩
        · exact ⟨.o (.dict []), .dic (ke _ _ n4.1 n4.2 z4), (fun y e => by cases e), rfl⟩
        · exact ⟨.s Str.empty, .s _, (fun y e => by cases e; exact te), rd_empty⟩
        · exact ⟨.t [.s (Str.ofString "stay")], .t (SqT.of (ke _ _ n5.1 n5.2 z5)) (.cons (.s _) .nil), (fun y e => by cases e), rfl⟩
      refine ⟨x, gx, rfl, ix, tx, fun v Hf sf iv => ?_⟩
      rw [rx] at iv
      have : v = .non := by cases iv; rfl
      rw [this]
      exact k Hf
end
end K1
set_option Elab.async false
set_option linter.all false
set_option maxRecDepth 100000
set_option maxHeartbeats 4000000
namespace K1
open PySem PySem.Spec PyProof.Rows L2
theorem dfk {P : Program} {w : World} {K : PySem.W.Frag} {mg : Str → Option Value} {base : Heap} {x : Str} {k : Nat} {ps : List Str} {sp : Sp} {f : Addr} {fd : FuncData} (h : FnOk P w K mg base C8.CX0 k f fd ps sp) (g : mg x = some (.ref f)) (kp : PySem.W.keepIn K (.ref f) = true) (b : Binds K fd ps []) : Df P w K mg base C8.CX0 x k ps sp := ⟨f, fd, h, g, kp, b⟩
theorem Df.up {P : Program} {w : World} {K : PySem.W.Frag} {mg : Str → Option Value} {base : Heap} {x : Str} {k j : Nat} {ps : List Str} {sp : Sp} (D : Df P w K mg base C8.CX0 x k ps sp) (h : k ≤ j) : Df P w K mg base C8.CX0 x j ps sp := by
  obtain ⟨f, fd, F, g, kp, b⟩ := D
  exact ⟨f, fd, F.mono h, g, kp, b⟩
theorem df_chain {P : Program} {w : World} {K : PySem.W.Frag} {mg : Str → Option Value} {base : Heap} {x : Str} {ps : List Str} (k : Nat → Nat) (sp : Nat → Sp) {f : Addr} {fd : FuncData} (g : mg x = some (.ref f)) (kp : PySem.W.keepIn K (.ref f) = true) (b : Binds K fd ps [])
    (h0 : FnOk P w K mg base C8.CX0 (k 0) f fd ps (sp 0)) (hs : ∀ n, Df P w K mg base C8.CX0 x (k n) ps (sp n) → FnOk P w K mg base C8.CX0 (k (n + 1)) f fd ps (sp (n + 1))) : ∀ n, Df P w K mg base C8.CX0 x (k n) ps (sp n)
  | 0 => ⟨f, fd, h0, g, kp, b⟩
  | n + 1 => ⟨f, fd, hs n (df_chain k sp g kp b h0 hs n), g, kp, b⟩
theorem df_chainB {P : Program} {w : World} {K : PySem.W.Frag} {mg : Str → Option Value} {base : Heap} {x : Str} {ps : List Str} (b0 : Nat) (k : Nat → Nat) (sp : Nat → Sp) {f : Addr} {fd : FuncData} (g : mg x = some (.ref f)) (kp : PySem.W.keepIn K (.ref f) = true) (b : Binds K fd ps [])
    (h0 : FnOk P w K mg base C8.CX0 (k 0) f fd ps (sp 0)) (hs : ∀ n, n < b0 → Df P w K mg base C8.CX0 x (k n) ps (sp n) → FnOk P w K mg base C8.CX0 (k (n + 1)) f fd ps (sp (n + 1))) : ∀ n, n ≤ b0 → Df P w K mg base C8.CX0 x (k n) ps (sp n)
  | 0, _ => ⟨f, fd, h0, g, kp, b⟩
  | n + 1, h => ⟨f, fd, hs n h (df_chainB b0 k sp g kp b h0 hs n (Nat.le_of_lt h)), g, kp, b⟩
theorem fn_no {P : Program} {w : World} {K : PySem.W.Frag} {mg : Str → Option Value} {base : Heap} {sp : Sp} {ps : List Str} {k : Nat} {f : Addr} {fd : FuncData} (h : ∀ vs H Q E, ¬ sp vs H Q E) : FnOk P w K mg base C8.CX0 k f fd ps sp :=
  ⟨fun vs H Q E q => absurd q (h vs H Q E), fun A outer s H args us vs Q E hr he hb hv hs => absurd hs (h vs H Q E)⟩
theorem no_plan0 {K : PySem.W.Frag} (vs : List V) (H : Hp) (Q : VK) (E : XK) : ¬ spPlan K 0 vs H Q E := by
  rintro ⟨d, g, c, tl, nl, t, h, ts, ns, _, _, _, h1, h2, _⟩
  omega
theorem okG {P : Program} {w : World} {K : PySem.W.Frag} {mg : Str → Option Value} {base : Heap} {k : Nat} {f : Addr} {fd : FuncData} {ps : List Str} {sp : Sp} (F : FnOk P w K mg base C8.CX0 k f fd ps sp) : FnG P w K mg base k f fd ps sp :=
  ⟨F.len, fun A outer s H us vs Q E _ hr he hb hv hs => F.run A outer s H ⟨us, []⟩ us vs Q E hr he hb hv hs⟩
theorem ns_at {K : PySem.W.Frag} {a : Addr} {es : Array DictEntry} {n : Nat} (h : K.lookup a = some ⟨.type "dict", none, .dict es n, #[]⟩) (x : Str) : (∀ e, es.toList.find? (·.key.isStr x) = some e → PySem.W.nsIn K a x = some (some e.val)) ∧ (es.toList.find? (·.key.isStr x) = none → es.toList.any (·.refKey) = false → PySem.W.nsIn K a x = some none) := by
  refine ⟨fun e he => ?_, fun he hr => ?_⟩
  · unfold PySem.W.nsIn
    rw [h]
    simp only [he]
  · unfold PySem.W.nsIn
    rw [h]
    simp only [he, hr]
    rfl
/-- the entries of INNER -/
def dkB : List DictEntry → List (Str × Nat) → Bool
  | [], [] => true
  | e :: es, p :: l => (match e.key with
      | .str s _ => s == p.1
      | _ => false) && ((match e.val with
      | .int n _ => n == (p.2 : Int)
      | _ => false) && dkB es l)
  | _, _ => false
theorem dk_ok : ∀ (es : List DictEntry) (l : List (Str × Nat)), dkB es l = true → es.any (·.refKey) = false ∧ ∀ x, (∀ n, l.lookup x = some n → ∃ e t, es.find? (·.key.isStr x) = some e ∧ e.val = .int (n : Int) t) ∧ (l.lookup x = none → es.find? (·.key.isStr x) = none)
  | [], [], _ => ⟨rfl, fun x => ⟨(fun n h => by cases h), fun _ => rfl⟩⟩
  | [], _ :: _, h => by cases h
  | _ :: _, [], h => by cases h
  | e :: es, (z, k) :: l, h => by
    unfold dkB at h
    rw [Bool.and_eq_true, Bool.and_eq_true] at h
    obtain ⟨h1, h2, h3⟩ := h
    obtain ⟨i1, i2⟩ := dk_ok es l h3
    obtain ⟨hash, key, val⟩ := e
    cases key with
    | str s t =>
      have hs : s = z := eq_of_beq h1
      subst hs
      cases val with
      | int n t' =>
        have hn : n = (k : Int) := eq_of_beq h2
        subst hn
        refine ⟨by rw [List.any_cons, i1]; rfl, fun x => ?_⟩
        obtain ⟨j1, j2⟩ := i2 x
        have ek : (Value.str s t).isStr x = (s == x) := by rw [PySem.W.isStr_of]; rfl
        by_cases hx : x = s
        · subst hx
          have et : (Value.str x t).isStr x = true := by rw [ek]; exact beq_self_eq_true x
          refine ⟨fun n hn => ?_, fun hn => ?_⟩
          · rw [List.lookup_cons, beq_self_eq_true] at hn
            cases hn
            exact ⟨⟨hash, .str x t, .int (k : Int) t'⟩, t', List.find?_cons_of_pos et, rfl⟩
          · rw [List.lookup_cons, beq_self_eq_true] at hn
            cases hn
        · have e1 : (x == s) = false := by simpa using hx
          have e2 : (Value.str s t).isStr x = false := by rw [ek]; simpa using fun q => hx q.symm
          rw [List.lookup_cons, e1, List.find?_cons_of_neg (by show ¬ (Value.str s t).isStr x = true; rw [e2]; exact Bool.false_ne_true)]
          exact ⟨j1, j2⟩
      | _ => cases h2
    | _ => cases h1
theorem all_mk {l : PySem.W.OpenLaw} {w : World} {K : PySem.W.Frag} {h : Heap} {mg : Str → Option Value} {fa CT CP CE aM aI fSma fNam fGap fTit fLea fPpo fIpl fWof fTof fTxo fPtx fTin fPof fRpl fBeg fMix fTak fPic fWor fTtl fPla fSai fLNa fPie fRea fOth fTol fGre fLaw fIST ccST cdaST : Addr} (X : K.In h) (G : h.Ns mainGlobals mg) (hfa : mg "law" = some (.ref fa))
    {cdSma ocSma kVSma dcSma pmSma ctSma cdNam ocNam kVNam dcNam pmNam ctNam cdGap ocGap kVGap dcGap pmGap ctGap cdTit ocTit kVTit dcTit pmTit ctTit cdLea ocLea kVLea dcLea pmLea ctLea cdPpo ocPpo kVPpo dcPpo pmPpo ctPpo cdIpl ocIpl kVIpl dcIpl pmIpl ctIpl cdWof ocWof kVWof dcWof pmWof ctWof cdTof ocTof kVTof dcTof pmTof ctTof cdTxo ocTxo kVTxo dcTxo pmTxo ctTxo cdPtx ocPtx kVPtx dcPtx pmPtx ctPtx cdTin ocTin kVTin dcTin pmTin ctTin cdPof ocPof kVPof dcPof pmPof ctPof cdRpl ocRpl kVRpl dcRpl pmRpl ctRpl cdBeg ocBeg kVBeg dcBeg pmBeg ctBeg cdMix ocMix kVMix dcMix pmMix ctMix cdTak ocTak kVTak dcTak pmTak ctTak cdPic ocPic kVPic dcPic pmPic ctPic cdWor ocWor kVWor dcWor pmWor ctWor cdTtl ocTtl kVTtl dcTtl pmTtl ctTtl cdPla ocPla kVPla dcPla pmPla ctPla cdSai ocSai kVSai dcSai pmSai ctSai cdLNa ocLNa kVLNa dcLNa pmLNa ctLNa cdPie ocPie kVPie dcPie pmPie ctPie cdRea ocRea kVRea dcRea pmRea ctRea cdOth ocOth kVOth dcOth pmOth ctOth cdTol ocTol kVTol dcTol pmTol ctTol cdGre ocGre kVGre dcGre pmGre ctGre cdLaw ocLaw kVLaw dcLaw pmLaw ctLaw ocIST dcIST pmIST ctIST clST cclST : Value} {odSma anSma odNam anNam odGap anGap odTit anTit odLea anLea odPpo anPpo odIpl anIpl odWof anWof odTof anTof odTxo anTxo odPtx anPtx odTin anTin odPof anPof odRpl anRpl odBeg anBeg odMix anMix odTak anTak odPic anPic odWor anWor odTtl anTtl odPla anPla odSai anSai odLNa anLNa odPie anPie odRea anRea odOth anOth odTol anTol odGre anGre odLaw anLaw odIST anIST cldST cddST odM : Option Addr} {slSma slNam slGap slTit slLea slPpo slIpl slWof slTof slTxo slPtx slTin slPof slRpl slBeg slMix slTak slPic slWor slTtl slPla slSai slLNa slPie slRea slOth slTol slGre slLaw slIST cslST ccsST slM : Array (Option Value)} {tSM tNL tGR tGL tMW tMA tfST tM1 tM2 tM3 : PySem.Tok} {fileST : Str} {vsST : Array Value} {nM nI : Nat} {esI : Array DictEntry}
    {nmST qST : Str} {NSST : Addr} {bsST bmST : List Value} {snST : List Str} {suST : List Value} {abST : Bool} {coST : Option Bool} {ddST : Option Addr} {maST mbST mcST mdST meST : Option Value}
    (gCT : PySem.W.nsIn K mainGlobals "NoText" = some (some (.ref CT)))
    (gCP : PySem.W.nsIn K mainGlobals "NoPlan" = some (some (.ref CP)))
    (gCE : PySem.W.nsIn K mainGlobals "TurnError" = some (some (.ref CE)))
    (aSma : PySem.W.nsIn K mainGlobals "is_small" = some (some (.ref fSma)))
    (lSma : K.lookup fSma = some ⟨ocSma, odSma, .func (PySem.W.fnOf "is_small" "is_small" (defArgs sSmall) (defBody sSmall) (defScope sSmall) .none kVSma dcSma pmSma anSma cdSma ctSma), slSma⟩)
    (cSma : PySem.W.codeIn K cdSma "is_small" = true)
    (kSma_ : PySem.W.keepIn K (.ref fSma) = true)
    (aNam : PySem.W.nsIn K mainGlobals "is_name" = some (some (.ref fNam)))
    (lNam : K.lookup fNam = some ⟨ocNam, odNam, .func (PySem.W.fnOf "is_name" "is_name" (defArgs sName) (defBody sName) (defScope sName) .none kVNam dcNam pmNam anNam cdNam ctNam), slNam⟩)
    (cNam : PySem.W.codeIn K cdNam "is_name" = true)
    (kNam_ : PySem.W.keepIn K (.ref fNam) = true)
    (aGap : PySem.W.nsIn K mainGlobals "is_gap" = some (some (.ref fGap)))
    (lGap : K.lookup fGap = some ⟨ocGap, odGap, .func (PySem.W.fnOf "is_gap" "is_gap" (defArgs sGap) (defBody sGap) (defScope sGap) .none kVGap dcGap pmGap anGap cdGap ctGap), slGap⟩)
    (cGap : PySem.W.codeIn K cdGap "is_gap" = true)
    (kGap_ : PySem.W.keepIn K (.ref fGap) = true)
    (aTit : PySem.W.nsIn K mainGlobals "is_title" = some (some (.ref fTit)))
    (lTit : K.lookup fTit = some ⟨ocTit, odTit, .func (PySem.W.fnOf "is_title" "is_title" (defArgs sIsTitle) (defBody sIsTitle) (defScope sIsTitle) .none kVTit dcTit pmTit anTit cdTit ctTit), slTit⟩)
    (cTit : PySem.W.codeIn K cdTit "is_title" = true)
    (kTit_ : PySem.W.keepIn K (.ref fTit) = true)
    (aLea : PySem.W.nsIn K mainGlobals "is_leaf" = some (some (.ref fLea)))
    (lLea : K.lookup fLea = some ⟨ocLea, odLea, .func (PySem.W.fnOf "is_leaf" "is_leaf" (defArgs sLeaf) (defBody sLeaf) (defScope sLeaf) .none kVLea dcLea pmLea anLea cdLea ctLea), slLea⟩)
    (cLea : PySem.W.codeIn K cdLea "is_leaf" = true)
    (kLea_ : PySem.W.keepIn K (.ref fLea) = true)
    (aPpo : PySem.W.nsIn K mainGlobals "plan_points" = some (some (.ref fPpo)))
    (lPpo : K.lookup fPpo = some ⟨ocPpo, odPpo, .func (PySem.W.fnOf "plan_points" "plan_points" (defArgs sPp) (defBody sPp) (defScope sPp) .none kVPpo dcPpo pmPpo anPpo cdPpo ctPpo), slPpo⟩)
    (cPpo : PySem.W.codeIn K cdPpo "plan_points" = true)
    (kPpo_ : PySem.W.keepIn K (.ref fPpo) = true)
    (aIpl : PySem.W.nsIn K mainGlobals "is_plan" = some (some (.ref fIpl)))
    (lIpl : K.lookup fIpl = some ⟨ocIpl, odIpl, .func (PySem.W.fnOf "is_plan" "is_plan" (defArgs sIsPlan) (defBody sIsPlan) (defScope sIsPlan) .none kVIpl dcIpl pmIpl anIpl cdIpl ctIpl), slIpl⟩)
    (cIpl : PySem.W.codeIn K cdIpl "is_plan" = true)
    (kIpl_ : PySem.W.keepIn K (.ref fIpl) = true)
    (aWof : PySem.W.nsIn K mainGlobals "words_of" = some (some (.ref fWof)))
    (lWof : K.lookup fWof = some ⟨ocWof, odWof, .func (PySem.W.fnOf "words_of" "words_of" (defArgs sWordsOf) (defBody sWordsOf) (defScope sWordsOf) .none kVWof dcWof pmWof anWof cdWof ctWof), slWof⟩)
    (cWof : PySem.W.codeIn K cdWof "words_of" = true)
    (kWof_ : PySem.W.keepIn K (.ref fWof) = true)
    (aTof : PySem.W.nsIn K mainGlobals "tree_of" = some (some (.ref fTof)))
    (lTof : K.lookup fTof = some ⟨ocTof, odTof, .func (PySem.W.fnOf "tree_of" "tree_of" (defArgs sTreeOf) (defBody sTreeOf) (defScope sTreeOf) .none kVTof dcTof pmTof anTof cdTof ctTof), slTof⟩)
    (cTof : PySem.W.codeIn K cdTof "tree_of" = true)
    (kTof_ : PySem.W.keepIn K (.ref fTof) = true)
    (aTxo : PySem.W.nsIn K mainGlobals "text_of_plan" = some (some (.ref fTxo)))
    (lTxo : K.lookup fTxo = some ⟨ocTxo, odTxo, .func (PySem.W.fnOf "text_of_plan" "text_of_plan" (defArgs sTextOf) (defBody sTextOf) (defScope sTextOf) .none kVTxo dcTxo pmTxo anTxo cdTxo ctTxo), slTxo⟩)
    (cTxo : PySem.W.codeIn K cdTxo "text_of_plan" = true)
    (kTxo_ : PySem.W.keepIn K (.ref fTxo) = true)
    (aPtx : PySem.W.nsIn K mainGlobals "plan_text" = some (some (.ref fPtx)))
    (lPtx : K.lookup fPtx = some ⟨ocPtx, odPtx, .func (PySem.W.fnOf "plan_text" "plan_text" (defArgs sPlanText) (defBody sPlanText) (defScope sPlanText) .none kVPtx dcPtx pmPtx anPtx cdPtx ctPtx), slPtx⟩)
    (cPtx : PySem.W.codeIn K cdPtx "plan_text" = true)
    (kPtx_ : PySem.W.keepIn K (.ref fPtx) = true)
    (aTin : PySem.W.nsIn K mainGlobals "title_in" = some (some (.ref fTin)))
    (lTin : K.lookup fTin = some ⟨ocTin, odTin, .func (PySem.W.fnOf "title_in" "title_in" (defArgs sTitleIn) (defBody sTitleIn) (defScope sTitleIn) .none kVTin dcTin pmTin anTin cdTin ctTin), slTin⟩)
    (cTin : PySem.W.codeIn K cdTin "title_in" = true)
    (kTin_ : PySem.W.keepIn K (.ref fTin) = true)
    (aPof : PySem.W.nsIn K mainGlobals "plan_of" = some (some (.ref fPof)))
    (lPof : K.lookup fPof = some ⟨ocPof, odPof, .func (PySem.W.fnOf "plan_of" "plan_of" (defArgs sPlanOf) (defBody sPlanOf) (defScope sPlanOf) .none kVPof dcPof pmPof anPof cdPof ctPof), slPof⟩)
    (cPof : PySem.W.codeIn K cdPof "plan_of" = true)
    (kPof_ : PySem.W.keepIn K (.ref fPof) = true)
    (aRpl : PySem.W.nsIn K mainGlobals "read_plan" = some (some (.ref fRpl)))
    (lRpl : K.lookup fRpl = some ⟨ocRpl, odRpl, .func (PySem.W.fnOf "read_plan" "read_plan" (defArgs sReadPlan) (defBody sReadPlan) (defScope sReadPlan) .none kVRpl dcRpl pmRpl anRpl cdRpl ctRpl), slRpl⟩)
    (cRpl : PySem.W.codeIn K cdRpl "read_plan" = true)
    (kRpl_ : PySem.W.keepIn K (.ref fRpl) = true)
    (aBeg : PySem.W.nsIn K mainGlobals "_law_begun" = some (some (.ref fBeg)))
    (lBeg : K.lookup fBeg = some ⟨ocBeg, odBeg, .func (PySem.W.fnOf "_law_begun" "_law_begun" (defArgs sBegun) (defBody sBegun) (defScope sBegun) .none kVBeg dcBeg pmBeg anBeg cdBeg ctBeg), slBeg⟩)
    (cBeg : PySem.W.codeIn K cdBeg "_law_begun" = true)
    (kBeg_ : PySem.W.keepIn K (.ref fBeg) = true)
    (aMix : PySem.W.nsIn K mainGlobals "_law_mixed" = some (some (.ref fMix)))
    (lMix : K.lookup fMix = some ⟨ocMix, odMix, .func (PySem.W.fnOf "_law_mixed" "_law_mixed" (defArgs sMixed) (defBody sMixed) (defScope sMixed) .none kVMix dcMix pmMix anMix cdMix ctMix), slMix⟩)
    (cMix : PySem.W.codeIn K cdMix "_law_mixed" = true)
    (kMix_ : PySem.W.keepIn K (.ref fMix) = true)
    (aTak : PySem.W.nsIn K mainGlobals "_law_take" = some (some (.ref fTak)))
    (lTak : K.lookup fTak = some ⟨ocTak, odTak, .func (PySem.W.fnOf "_law_take" "_law_take" (defArgs sTake) (defBody sTake) (defScope sTake) .none kVTak dcTak pmTak anTak cdTak ctTak), slTak⟩)
    (cTak : PySem.W.codeIn K cdTak "_law_take" = true)
    (kTak_ : PySem.W.keepIn K (.ref fTak) = true)
    (aPic : PySem.W.nsIn K mainGlobals "_law_pick" = some (some (.ref fPic)))
    (lPic : K.lookup fPic = some ⟨ocPic, odPic, .func (PySem.W.fnOf "_law_pick" "_law_pick" (defArgs sPick') (defBody sPick') (defScope sPick') .none kVPic dcPic pmPic anPic cdPic ctPic), slPic⟩)
    (cPic : PySem.W.codeIn K cdPic "_law_pick" = true)
    (kPic_ : PySem.W.keepIn K (.ref fPic) = true)
    (aWor : PySem.W.nsIn K mainGlobals "_law_words" = some (some (.ref fWor)))
    (lWor : K.lookup fWor = some ⟨ocWor, odWor, .func (PySem.W.fnOf "_law_words" "_law_words" (defArgs sWords) (defBody sWords) (defScope sWords) .none kVWor dcWor pmWor anWor cdWor ctWor), slWor⟩)
    (cWor : PySem.W.codeIn K cdWor "_law_words" = true)
    (kWor_ : PySem.W.keepIn K (.ref fWor) = true)
    (aTtl : PySem.W.nsIn K mainGlobals "_law_titles" = some (some (.ref fTtl)))
    (lTtl : K.lookup fTtl = some ⟨ocTtl, odTtl, .func (PySem.W.fnOf "_law_titles" "_law_titles" (defArgs sTitles) (defBody sTitles) (defScope sTitles) .none kVTtl dcTtl pmTtl anTtl cdTtl ctTtl), slTtl⟩)
    (cTtl : PySem.W.codeIn K cdTtl "_law_titles" = true)
    (kTtl_ : PySem.W.keepIn K (.ref fTtl) = true)
    (aPla : PySem.W.nsIn K mainGlobals "_law_plan" = some (some (.ref fPla)))
    (lPla : K.lookup fPla = some ⟨ocPla, odPla, .func (PySem.W.fnOf "_law_plan" "_law_plan" (defArgs sPlan) (defBody sPlan) (defScope sPlan) .none kVPla dcPla pmPla anPla cdPla ctPla), slPla⟩)
    (cPla : PySem.W.codeIn K cdPla "_law_plan" = true)
    (kPla_ : PySem.W.keepIn K (.ref fPla) = true)
    (aSai : PySem.W.nsIn K mainGlobals "_law_said" = some (some (.ref fSai)))
    (lSai : K.lookup fSai = some ⟨ocSai, odSai, .func (PySem.W.fnOf "_law_said" "_law_said" (defArgs sSaid) (defBody sSaid) (defScope sSaid) .none kVSai dcSai pmSai anSai cdSai ctSai), slSai⟩)
    (cSai : PySem.W.codeIn K cdSai "_law_said" = true)
    (kSai_ : PySem.W.keepIn K (.ref fSai) = true)
    (aLNa : PySem.W.nsIn K mainGlobals "_law_is_name" = some (some (.ref fLNa)))
    (lLNa : K.lookup fLNa = some ⟨ocLNa, odLNa, .func (PySem.W.fnOf "_law_is_name" "_law_is_name" (defArgs sLName) (defBody sLName) (defScope sLName) .none kVLNa dcLNa pmLNa anLNa cdLNa ctLNa), slLNa⟩)
    (cLNa : PySem.W.codeIn K cdLNa "_law_is_name" = true)
    (kLNa_ : PySem.W.keepIn K (.ref fLNa) = true)
    (aPie : PySem.W.nsIn K mainGlobals "_law_pieces" = some (some (.ref fPie)))
    (lPie : K.lookup fPie = some ⟨ocPie, odPie, .func (PySem.W.fnOf "_law_pieces" "_law_pieces" (defArgs sPieces) (defBody sPieces) (defScope sPieces) .none kVPie dcPie pmPie anPie cdPie ctPie), slPie⟩)
    (cPie : PySem.W.codeIn K cdPie "_law_pieces" = true)
    (kPie_ : PySem.W.keepIn K (.ref fPie) = true)
    (aRea : PySem.W.nsIn K mainGlobals "_law_read" = some (some (.ref fRea)))
    (lRea : K.lookup fRea = some ⟨ocRea, odRea, .func (PySem.W.fnOf "_law_read" "_law_read" (defArgs sRead) (defBody sRead) (defScope sRead) .none kVRea dcRea pmRea anRea cdRea ctRea), slRea⟩)
    (cRea : PySem.W.codeIn K cdRea "_law_read" = true)
    (kRea_ : PySem.W.keepIn K (.ref fRea) = true)
    (aOth : PySem.W.nsIn K mainGlobals "_law_otherwise" = some (some (.ref fOth)))
    (lOth : K.lookup fOth = some ⟨ocOth, odOth, .func (PySem.W.fnOf "_law_otherwise" "_law_otherwise" (defArgs sOther) (defBody sOther) (defScope sOther) .none kVOth dcOth pmOth anOth cdOth ctOth), slOth⟩)
    (cOth : PySem.W.codeIn K cdOth "_law_otherwise" = true)
    (kOth_ : PySem.W.keepIn K (.ref fOth) = true)
    (aTol : PySem.W.nsIn K mainGlobals "_law_told" = some (some (.ref fTol)))
    (lTol : K.lookup fTol = some ⟨ocTol, odTol, .func (PySem.W.fnOf "_law_told" "_law_told" (defArgs sTold) (defBody sTold) (defScope sTold) .none kVTol dcTol pmTol anTol cdTol ctTol), slTol⟩)
    (cTol : PySem.W.codeIn K cdTol "_law_told" = true)
    (kTol_ : PySem.W.keepIn K (.ref fTol) = true)
    (aGre : PySem.W.nsIn K mainGlobals "_law_great" = some (some (.ref fGre)))
    (lGre : K.lookup fGre = some ⟨ocGre, odGre, .func (PySem.W.fnOf "_law_great" "_law_great" (defArgs sGreat) (defBody sGreat) (defScope sGreat) .none kVGre dcGre pmGre anGre cdGre ctGre), slGre⟩)
    (cGre : PySem.W.codeIn K cdGre "_law_great" = true)
    (kGre_ : PySem.W.keepIn K (.ref fGre) = true)
    (aLaw : PySem.W.nsIn K mainGlobals "law" = some (some (.ref fLaw)))
    (lLaw : K.lookup fLaw = some ⟨ocLaw, odLaw, .func (PySem.W.fnOf "law" "law" (defArgs sLaw) (defBody sLaw) (defScope sLaw) .none kVLaw dcLaw pmLaw anLaw cdLaw ctLaw), slLaw⟩)
    (cLaw : PySem.W.codeIn K cdLaw "law" = true)
    (kLaw_ : PySem.W.keepIn K (.ref fLaw) = true)
    (xSM : PySem.W.nsIn K mainGlobals "SMALL" = some (some (.str abc tSM)))
    (xNL : PySem.W.nsIn K mainGlobals "NAME_LETTERS" = some (some (.int 8 tNL)))
    (xGR : PySem.W.nsIn K mainGlobals "GREAT" = some (some (.str bigs tGR)))
    (xGL : PySem.W.nsIn K mainGlobals "GAP_LETTERS" = some (some (.int 4 tGL)))
    (xMW : PySem.W.nsIn K mainGlobals "MOST_WITHIN" = some (some (.int 12 tMW)))
    (xMA : PySem.W.nsIn K mainGlobals "MOST_IN_ALL" = some (some (.int 60 tMA)))
    (z_isinstance : PySem.W.nsIn K mainGlobals "isinstance" = some none)
    (z_int : PySem.W.nsIn K mainGlobals "int" = some none)
    (z_bool : PySem.W.nsIn K mainGlobals "bool" = some none)
    (z_str : PySem.W.nsIn K mainGlobals "str" = some none)
    (z_list : PySem.W.nsIn K mainGlobals "list" = some none)
    (z_tuple : PySem.W.nsIn K mainGlobals "tuple" = some none)
    (z_len : PySem.W.nsIn K mainGlobals "len" = some none)
    (z_all : PySem.W.nsIn K mainGlobals "all" = some none)
    (z_range : PySem.W.nsIn K mainGlobals "range" = some none)
    (z_repr : PySem.W.nsIn K mainGlobals "repr" = some none)
    (z_dict : PySem.W.nsIn K mainGlobals "dict" = some none)
    (z_enumerate : PySem.W.nsIn K mainGlobals "enumerate" = some none)
    (z_ValueError : PySem.W.nsIn K mainGlobals "ValueError" = some none)
    (z_super : PySem.W.nsIn K mainGlobals "super" = some none)
    (gM : PySem.W.nsIn K mainGlobals "MARKS" = some (some (.ref aM)))
    (lM : K.lookup aM = some ⟨.type "tuple", odM, .seq #[.str oP tM1, .str cP tM2, .str cm tM3] nM, slM⟩)
    (gI : PySem.W.nsIn K mainGlobals "INNER" = some (some (.ref aI)))
    (lI : K.lookup aI = some ⟨.type "dict", none, .dict esI nI, #[]⟩)
    (kI : PySem.W.KeysLit w.params esI.toList)
    (sI : (aI == sysModules) = false)
    (dI : dkB esI.toList arL = true)
    (oqS : PySem.W.nsIn K cStatics "thirdparty.any" = some none)
    (tpX : (l.prog.main.scope.names.lookup ("super" : Str)).isSome = false)
    (qn : PySem.W.specialIn K (.builtin "object.__class__") "__get__" = some (some (.builtin "getset_descriptor.__get__")))
    (qt : PySem.W.takesIn K (.builtin "object.__class__") = some true)
    (xST : K.lookup CT = some (excClassObj nmST qST CT NSST bsST bmST true snST suST abST coST ddST maST mbST mcST mdST meST "ValueError.__new__"))
    (rST : PySem.HandSPX.refsVE bmST = true)
    (alST : PySem.W.alongIn K "__init__" bmST = some (some (.builtin "ValueError.__init__")))
    (saST : PySem.W.findIn K (.ref CT) "__setattr__" = some (some (.builtin "object.__setattr__")))
    (nnST : PySem.W.findIn K (.ref CT) "row" = some none)
    (iiST : PySem.W.findIn K (.ref CT) "__init__" = some (some (.ref fIST)))
    (ttST : PySem.W.typeIn K (.ref fIST) = some (.type "function"))
    (kkST : PySem.W.keepIn K (.ref CT) = true)
    (exST : PySem.W.subIn K (.ref CT) (.type "BaseException") = some true)
    (veST : PySem.W.subIn K (.ref CT) (.type "ValueError") = some true)
    (mrST : PySem.W.mroIn K CT (.ref CT) = some true)
    (tyST : PySem.W.typeIn K (.ref CT) = some (.type "type"))
    (lfST : K.lookup fIST = some ⟨ocIST, odIST, .func (PySem.W.ksFn "__init__" "NoText.__init__" (defArgs PySem.NtX.sNs) (defBody PySem.NtX.sNs) (defScope PySem.NtX.sNs) .none .none dcIST pmIST anIST (.ref cdaST) ctIST ccST), slIST⟩)
    (cfST : PySem.W.codeIn K (.ref cdaST) "NoText.__init__" = true)
    (lcST : K.lookup ccST = some ⟨clST, cldST, .cell (some (.ref CT)), cslST⟩)
    (ldST : K.lookup cdaST = some ⟨cclST, cddST, .fields vsST, ccsST⟩)
    (v2ST : vsST[2]? = some (.str fileST tfST))
    (flST : ((l.prog.main.file : Str) == fileST) = true)
    (egST : PySem.W.findIn K (.ref CT) "__getattribute__" = some (some (.builtin "BaseException.__getattribute__")))
    (ekST : PySem.W.findIn K (.ref CT) "__getattr__" = some none)
    (edST : PySem.W.hasDictIn K CT = true)
    (eaST : PySem.W.findIn K (.ref CT) "__class__" = some (some (.builtin "object.__class__")))
    (eoST : PySem.W.mroIn K CT (.type "object") = some true)
    (emT : PySem.W.exmOne K (.ref CT) (.ref CE) = some true)
    (eVT : PySem.W.kitOne K (.ref CT) (.type "ValueError") = some true)
    (eoT : PySem.W.kitOne K (.ref CT) (.ref CT) = some true)
    (epT : PySem.W.kitOne K (.ref CT) (.ref CP) = some false)
    : LawG l w K 21 63 "_law_script" mg fa h := by
  have e := hfa.symm.trans (PySem.W.mg_of X G aLaw)
  cases e
  have FSma := fun_mk (st := sSmall) lSma cSma kSma_
  have bSma := FSma.binds (ps := ["text"]) fun _ _ _ _ _ _ us hl => match us, hl with | [_], _ => rfl
  have gSma_ := PySem.W.mg_of X G aSma
  have FNam := fun_mk (st := sName) lNam cNam kNam_
  have bNam := FNam.binds (ps := ["thing"]) fun _ _ _ _ _ _ us hl => match us, hl with | [_], _ => rfl
  have gNam_ := PySem.W.mg_of X G aNam
  have FGap := fun_mk (st := sGap) lGap cGap kGap_
  have bGap := FGap.binds (ps := ["thing"]) fun _ _ _ _ _ _ us hl => match us, hl with | [_], _ => rfl
  have gGap_ := PySem.W.mg_of X G aGap
  have FTit := fun_mk (st := sIsTitle) lTit cTit kTit_
  have bTit := FTit.binds (ps := ["thing"]) fun _ _ _ _ _ _ us hl => match us, hl with | [_], _ => rfl
  have gTit_ := PySem.W.mg_of X G aTit
  have FLea := fun_mk (st := sLeaf) lLea cLea kLea_
  have bLea := FLea.binds (ps := ["plan"]) fun _ _ _ _ _ _ us hl => match us, hl with | [_], _ => rfl
  have gLea_ := PySem.W.mg_of X G aLea
  have FPpo := fun_mk (st := sPp) lPpo cPpo kPpo_
  have bPpo := FPpo.binds (ps := ["thing", "levels", "room"]) fun _ _ _ _ _ _ us hl => match us, hl with | [_, _, _], _ => rfl
  have gPpo_ := PySem.W.mg_of X G aPpo
  have FIpl := fun_mk (st := sIsPlan) lIpl cIpl kIpl_
  have bIpl := FIpl.binds (ps := ["thing"]) fun _ _ _ _ _ _ us hl => match us, hl with | [_], _ => rfl
  have gIpl_ := PySem.W.mg_of X G aIpl
  have FWof := fun_mk (st := sWordsOf) lWof cWof kWof_
  have bWof := FWof.binds (ps := ["text"]) fun _ _ _ _ _ _ us hl => match us, hl with | [_], _ => rfl
  have gWof_ := PySem.W.mg_of X G aWof
  have FTof := fun_mk (st := sTreeOf) lTof cTof kTof_
  have bTof := FTof.binds (ps := ["words"]) fun _ _ _ _ _ _ us hl => match us, hl with | [_], _ => rfl
  have gTof_ := PySem.W.mg_of X G aTof
  have FTxo := fun_mk (st := sTextOf) lTxo cTxo kTxo_
  have bTxo := FTxo.binds (ps := ["plan"]) fun _ _ _ _ _ _ us hl => match us, hl with | [_], _ => rfl
  have gTxo_ := PySem.W.mg_of X G aTxo
  have FPtx := fun_mk (st := sPlanText) lPtx cPtx kPtx_
  have bPtx := FPtx.binds (ps := ["plan"]) fun _ _ _ _ _ _ us hl => match us, hl with | [_], _ => rfl
  have gPtx_ := PySem.W.mg_of X G aPtx
  have FTin := fun_mk (st := sTitleIn) lTin cTin kTin_
  have bTin := FTin.binds (ps := ["inner"]) fun _ _ _ _ _ _ us hl => match us, hl with | [_], _ => rfl
  have gTin_ := PySem.W.mg_of X G aTin
  have FPof := fun_mk (st := sPlanOf) lPof cPof kPof_
  have bPof := FPof.binds (ps := ["tree", "levels"]) fun _ _ _ _ _ _ us hl => match us, hl with | [_, _], _ => rfl
  have gPof_ := PySem.W.mg_of X G aPof
  have FRpl := fun_mk (st := sReadPlan) lRpl cRpl kRpl_
  have bRpl := FRpl.binds (ps := ["text"]) fun _ _ _ _ _ _ us hl => match us, hl with | [_], _ => rfl
  have gRpl_ := PySem.W.mg_of X G aRpl
  have FBeg := fun_mk (st := sBegun) lBeg cBeg kBeg_
  have bBeg := FBeg.binds (ps := ["_law_script"]) fun _ _ _ _ _ _ us hl => match us, hl with | [_], _ => rfl
  have gBeg_ := PySem.W.mg_of X G aBeg
  have FMix := fun_mk (st := sMixed) lMix cMix kMix_
  have bMix := FMix.binds (ps := ["_law_state"]) fun _ _ _ _ _ _ us hl => match us, hl with | [_], _ => rfl
  have gMix_ := PySem.W.mg_of X G aMix
  have FTak := fun_mk (st := sTake) lTak cTak kTak_
  have bTak := FTak.binds (ps := ["_law_state", "_law_size"]) fun _ _ _ _ _ _ us hl => match us, hl with | [_, _], _ => rfl
  have gTak_ := PySem.W.mg_of X G aTak
  have FPic := fun_mk (st := sPick') lPic cPic kPic_
  have bPic := FPic.binds (ps := ["_law_state", "_law_some"]) fun _ _ _ _ _ _ us hl => match us, hl with | [_, _], _ => rfl
  have gPic_ := PySem.W.mg_of X G aPic
  have FWor := fun_mk (st := sWords) lWor cWor kWor_
  have bWor := FWor.binds (ps := ["_law_state", "_law_size"]) fun _ _ _ _ _ _ us hl => match us, hl with | [_, _], _ => rfl
  have gWor_ := PySem.W.mg_of X G aWor
  have FTtl := fun_mk (st := sTitles) lTtl cTtl kTtl_
  have bTtl := FTtl.binds (ps := ["_law_state", "_law_size"]) fun _ _ _ _ _ _ us hl => match us, hl with | [_, _], _ => rfl
  have gTtl_ := PySem.W.mg_of X G aTtl
  have FPla := fun_mk (st := sPlan) lPla cPla kPla_
  have bPla := FPla.binds (ps := ["_law_state", "_law_titles_here", "_law_names", "_law_height"]) fun _ _ _ _ _ _ us hl => match us, hl with | [_, _, _, _], _ => rfl
  have gPla_ := PySem.W.mg_of X G aPla
  have FSai := fun_mk (st := sSaid) lSai cSai kSai_
  have bSai := FSai.binds (ps := ["_law_scheme"]) fun _ _ _ _ _ _ us hl => match us, hl with | [_], _ => rfl
  have gSai_ := PySem.W.mg_of X G aSai
  have FLNa := fun_mk (st := sLName) lLNa cLNa kLNa_
  have bLNa := FLNa.binds (ps := ["_law_word"]) fun _ _ _ _ _ _ us hl => match us, hl with | [_], _ => rfl
  have gLNa_ := PySem.W.mg_of X G aLNa
  have FPie := fun_mk (st := sPieces) lPie cPie kPie_
  have bPie := FPie.binds (ps := ["_law_phrase"]) fun _ _ _ _ _ _ us hl => match us, hl with | [_], _ => rfl
  have gPie_ := PySem.W.mg_of X G aPie
  have FRea := fun_mk (st := sRead) lRea cRea kRea_
  have bRea := FRea.binds (ps := ["_law_phrase", "_law_within", "_law_left"]) fun _ _ _ _ _ _ us hl => match us, hl with | [_, _, _], _ => rfl
  have gRea_ := PySem.W.mg_of X G aRea
  have FOth := fun_mk (st := sOther) lOth cOth kOth_
  have bOth := FOth.binds (ps := ["_law_state", "_law_phrase"]) fun _ _ _ _ _ _ us hl => match us, hl with | [_, _], _ => rfl
  have gOth_ := PySem.W.mg_of X G aOth
  have FTol := fun_mk (st := sTold) lTol cTol kTol_
  have bTol := FTol.binds (ps := ["_law_phrase"]) fun _ _ _ _ _ _ us hl => match us, hl with | [_], _ => rfl
  have gTol_ := PySem.W.mg_of X G aTol
  have FGre := fun_mk (st := sGreat) lGre cGre kGre_
  have bGre := FGre.binds (ps := ["_law_state"]) fun _ _ _ _ _ _ us hl => match us, hl with | [_], _ => rfl
  have gGre_ := PySem.W.mg_of X G aGre
  have FLaw := fun_mk (st := sLaw) lLaw cLaw kLaw_
  have bLaw := FLaw.binds (ps := ["_law_script"]) fun _ _ _ _ _ _ us hl => match us, hl with | [_], _ => rfl
  have gLaw_ := PySem.W.mg_of X G aLaw
  have hCT := PySem.W.mg_of X G gCT
  have hCP := PySem.W.mg_of X G gCP
  have hCE := PySem.W.mg_of X G gCE
  have w_isinstance := PySem.W.mg_none_of X G z_isinstance
  have w_int := PySem.W.mg_none_of X G z_int
  have w_bool := PySem.W.mg_none_of X G z_bool
  have w_str := PySem.W.mg_none_of X G z_str
  have w_list := PySem.W.mg_none_of X G z_list
  have w_tuple := PySem.W.mg_none_of X G z_tuple
  have w_len := PySem.W.mg_none_of X G z_len
  have w_all := PySem.W.mg_none_of X G z_all
  have w_range := PySem.W.mg_none_of X G z_range
  have w_repr := PySem.W.mg_none_of X G z_repr
  have w_dict := PySem.W.mg_none_of X G z_dict
  have w_enumerate := PySem.W.mg_none_of X G z_enumerate
  have w_ValueError := PySem.W.mg_none_of X G z_ValueError
  have w_super := PySem.W.mg_none_of X G z_super
  have B : Cs mg := ⟨⟨_, PySem.W.mg_of X G xSM⟩, ⟨_, PySem.W.mg_of X G xNL⟩, w_isinstance, w_int, w_bool, w_str, w_list, w_tuple, w_len, w_all, w_range, w_repr, w_dict⟩
  have T : Ct mg := ⟨B, ⟨_, PySem.W.mg_of X G xGR⟩, ⟨_, PySem.W.mg_of X G xGL⟩⟩
  have T2 : Cp mg := ⟨⟨_, PySem.W.mg_of X G xMW⟩, ⟨_, PySem.W.mg_of X G xMA⟩⟩
  have Tx : Txt mg := ⟨w_list⟩
  have Bx : Bt mg := ⟨w_list, w_len, w_range⟩
  have MM : Mks K mg aM := ⟨PySem.W.mg_of X G gM, fun H => .inr ⟨_, _, _, lM, rfl, rfl, (by show 3 ≤ sizeLine; rw [sizeLine_eq]; omega), .cons ⟨_, rfl⟩ (.cons ⟨_, rfl⟩ (.cons ⟨_, rfl⟩ .nil))⟩⟩
  have dok := dk_ok _ _ dI
  have nsA := fun x => ns_at lI x
  have II : Inr K w mg aI esI nI := ⟨PySem.W.mg_of X G gI, ⟨lI, kI, sI⟩, fun x n hx => by
    obtain ⟨e, t, h1, h2⟩ := (dok.2 x).1 n hx
    exact ⟨t, by rw [(nsA x).1 e h1, h2]⟩, fun x hx => (nsA x).2 ((dok.2 x).2 hx) dok.1⟩
  have NST : PySem.NtX.NsTxt l.prog K CT CE fIST ccST cdaST := ⟨⟨_, _, _, _, _, _, _, _, _, _, _, _, _, _, _, xST, rST, alST⟩, saST, nnST, iiST, ttST, kkST, exST, veST, mrST, tyST, oqS, z_super, ⟨_, _, _, lcST⟩, ⟨_, _, _, _, _, _, ldST, v2ST, flST⟩, tpX, ⟨_, _, _, _, _, _, _, lfST, cfST⟩⟩
  have EST : ExcC K CT := ⟨egST, ekST, exST, edST, eaST, qn, qt, eoST⟩
  have RT : RfT mg K CE CT CP := ⟨hCE, hCT, hCP, w_ValueError, emT, EST, eoT, epT, eVT, ⟨egST, ekST, exST, edST⟩, nnST⟩
  have kbPtx : KBn K _ ["plan"] 0 ["plan"] (fun us ws => us ++ ws) (fun vs zs => vs ++ zs) := kbn_one (fd := PySem.W.fnOf "plan_text" "plan_text" (defArgs sPlanText) (defBody sPlanText) (defScope sPlanText) .none kVPtx dcPtx pmPtx anPtx cdPtx ctPtx) fun _ => rfl
  have kbRpl : KBn K _ ["text"] 0 ["text"] (fun us ws => us ++ ws) (fun vs zs => vs ++ zs) := kbn_one (fd := PySem.W.fnOf "read_plan" "read_plan" (defArgs sReadPlan) (defBody sReadPlan) (defScope sReadPlan) .none kVRpl dcRpl pmRpl anRpl cdRpl ctRpl) fun _ => rfl
  refine ⟨PySem.W.fnOf "law" "law" (defArgs sLaw) (defBody sLaw) (defScope sLaw) .none kVLaw dcLaw pmLaw anLaw cdLaw ctLaw, [], spLaw K, (fun p hp => by cases hp), (fun p hp => by cases hp), (fun p hp => by cases hp), fun s u => .of_eq rfl, fun H a ns hl _ hS => ⟨a, ns, rfl, hS, hl, fun _ => rfl⟩, fun base _ _ _ => ?_⟩
  · have DTk := dfk (P := l.prog) (w := w) (base := base) (ok_take FTak FMix bMix gMix_ kMix_ Tx) gTak_ kTak_ bTak
    have DPi := dfk (ok_pick FPic DTk Bx) gPic_ kPic_ bPic
    have DPs := dfk (ok_pickS FPic DTk Bx) gPic_ kPic_ bPic
    have DWo := dfk (ok_words FWor DTk Bx) gWor_ kWor_ bWor
    have DBe := dfk (P := l.prog) (w := w) (base := base) (ok_begun FBeg Tx) gBeg_ kBeg_ bBeg
    have Dsma := dfk (P := l.prog) (w := w) (base := base) (ok_small FSma B) gSma_ kSma_ bSma
    have Dnam := dfk (ok_name FNam Dsma B) gNam_ kNam_ bNam
    have Dgap := dfk (ok_gap FGap Dsma T) gGap_ kGap_ bGap
    have Dtit := dfk (ok_isTitle FTit Dnam T) gTit_ kTit_ bTit
    have Dlea := dfk (ok_leaf FLea Dnam Dtit T) gLea_ kLea_ bLea
    have Dpp := df_chain (P := l.prog) (w := w) (base := base) (fun n => n + 5) (fun n => spPp K n) gPpo_ kPpo_ bPpo (ok_pp (n := 0) (m := 4) (spI := fun _ _ _ _ => False) FPpo (dfk (fn_no fun _ _ _ _ z => z) gPpo_ kPpo_ bPpo) (fun l hl => absurd hl (by omega)) Dlea II T (by omega)) (fun n IH => ok_pp FPpo IH (fun l hl vs H Q E ⟨v, g, r, e, h1, h2, h3, h4⟩ => ⟨v, g, l, r, e, h1, h2, h3, by omega, h4⟩) Dlea II T (by omega))
    have Dipl := dfk (ok_isPlan FIpl (Dpp 12) T2) gIpl_ kIpl_ bIpl
    have Dwof := dfk (P := l.prog) (w := w) (base := base) (ok_wordsOf FWof MM) gWof_ kWof_ bWof
    have Dtof := dfk (ok_treeOf FTof MM Dgap T w_enumerate) gTof_ kTof_ bTof
    have Dtxo := df_chain (P := l.prog) (w := w) (base := base) (fun n => n + 1) (fun n => spTx K n) gTxo_ kTxo_ bTxo (ok_textOf (n := 0) (m := 0) (spI := fun _ _ _ _ => False) FTxo (dfk (fn_no fun _ _ _ _ z => z) gTxo_ kTxo_ bTxo) (fun l hl => absurd hl (by omega)) II T) (fun n IH => ok_textOf FTxo IH (fun l hl vs H Q E ⟨v, g, e, h1, h2, h3, h4⟩ => ⟨v, g, l, e, h1, by omega, h2, h3, h4⟩) II T)
    have OPT := ok_planText (m := 18) FPtx Dipl ((Dtxo 12).up (by decide))
    have Dtin := dfk (P := l.prog) (w := w) (base := base) (ok_titleIn FTin T) gTin_ kTin_ bTin
    have Dpof := df_chain (P := l.prog) (w := w) (base := base) (fun n => n + 2) (fun n => spPo K n) gPof_ kPof_ bPof (ok_planOf (n := 0) (m := 1) (spI := fun _ _ _ _ => False) FPof (dfk (fn_no fun _ _ _ _ z => z) gPof_ kPof_ bPof) (fun l hl => absurd hl (by omega)) Dtin II T (by omega)) (fun n IH => ok_planOf FPof IH (fun l hl vs H Q E ⟨v, g, e, h1, h2, h3⟩ => ⟨v, g, l, e, h1, h2, by omega, h3⟩) Dtin II T (by omega))
    have ORP := ok_readPlan (m := 18) FRpl Dwof Dtof ((Dpof 12).up (by decide)) Dipl T T2 NST hCT (by decide)
    have Dttl := dfk (ok_titles FTtl DTk DWo Bx) gTtl_ kTtl_ bTtl
    have Dpla := df_chain (P := l.prog) (w := w) (base := base) (fun n => n + 3) (fun n => spPlan K n) gPla_ kPla_ bPla (fn_no no_plan0) (fun n IH => ok_plan FPla IH (fun vs H Q E h => h.2) DTk DPi Bx (by omega))
    have Dsai := df_chain (P := l.prog) (w := w) (base := base) (fun n => n + 1) (fun n => spTx K n) gSai_ kSai_ bSai (ok_said (n := 0) (m := 0) (spI := fun _ _ _ _ => False) FSai (dfk (fn_no fun _ _ _ _ z => z) gSai_ kSai_ bSai) (fun l hl => absurd hl (by omega)) T) (fun n IH => ok_said FSai IH (fun l hl vs H Q E ⟨v, g, e, h1, h2, h3, h4⟩ => ⟨v, g, l, e, h1, by omega, h2, h3, h4⟩) T)
    have Dlna := dfk (P := l.prog) (w := w) (base := base) (ok_lname FLNa T) gLNa_ kLNa_ bLNa
    have Dpie := dfk (P := l.prog) (w := w) (base := base) (ok_pieces FPie w_int) gPie_ kPie_ bPie
    have Drea := df_chainB (P := l.prog) (w := w) (base := base) 12 (fun n => n + 2) (fun n => spLR K n) gRea_ kRea_ bRea (ok_read (n := 0) (m := 1) (spI := fun _ _ _ _ => False) FRea (dfk (fn_no fun _ _ _ _ z => z) gRea_ kRea_ bRea) (fun l hl => absurd hl (by omega)) Dlna Dpie T (by omega)) (fun n hn IH => ok_read FRea IH (fun l hl vs H Q E ⟨x, i, k, lf, e, h1, h2, h3, h4⟩ => ⟨x, i, l, k, lf, e, h1, by omega, by omega, h2, h3, h4⟩) Dlna Dpie T (by omega))
    have Doth := dfk (ok_other FOth DTk DPi DPs T) gOth_ kOth_ bOth
    have Dtol := dfk (ok_told FTol T RT ORP gRpl_ kRpl_ bRpl) gTol_ kTol_ bTol
    have Dgre := dfk (ok_great FGre DTk T) gGre_ kGre_ bGre
    exact okG (ok_law (m := 20) FLaw T DBe Dttl DWo ((Dpla 6).up (by decide)) DTk ((Dsai 6).up (by decide)) ((Drea 12 (Nat.le_refl _)).up (by decide)) (OPT.mono (by decide)) gPtx_ kPtx_ kbPtx (ORP.mono (by decide)) gRpl_ kRpl_ kbRpl (Dtol.up (by decide)) Doth Dgre DPi (by decide))
end K1
open PySem PySem.W PyProof.Rows
set_option Elab.async false
set_option maxRecDepth 100000 in
set_option maxHeartbeats 0 in
theorem PySem.Challenge.cw_termyard_k37_texts_of_plans_holds : PySem.Challenge.rw_termyard_k37_texts_of_plans.Holds := by
  w_on; o_law; k_head; (case hw => w_witness2)
  k_fill
  refine K1.walk_G (l := PySem.Challenge.rw_termyard_k37_texts_of_plans) (n := 63) (k := 21) (x := "_law_script") rfl (by decide) rfl ⟨rfl, by decide, by decide⟩ (fun w h Y => PySem.W.kIn_of Y) ?F
  case F =>
    intro w mg fa h Y KX G hmg
    refine' K1.all_mk KX G hmg ?q_gCT ?q_gCP ?q_gCE ?q_aSma ?q_lSma ?q_cSma ?q_kSma_ ?q_aNam ?q_lNam ?q_cNam ?q_kNam_ ?q_aGap ?q_lGap ?q_cGap ?q_kGap_ ?q_aTit ?q_lTit ?q_cTit ?q_kTit_ ?q_aLea ?q_lLea ?q_cLea ?q_kLea_ ?q_aPpo ?q_lPpo ?q_cPpo ?q_kPpo_ ?q_aIpl ?q_lIpl ?q_cIpl ?q_kIpl_ ?q_aWof ?q_lWof ?q_cWof ?q_kWof_ ?q_aTof ?q_lTof ?q_cTof ?q_kTof_ ?q_aTxo ?q_lTxo ?q_cTxo ?q_kTxo_ ?q_aPtx ?q_lPtx ?q_cPtx ?q_kPtx_ ?q_aTin ?q_lTin ?q_cTin ?q_kTin_ ?q_aPof ?q_lPof ?q_cPof ?q_kPof_ ?q_aRpl ?q_lRpl ?q_cRpl ?q_kRpl_ ?q_aBeg ?q_lBeg ?q_cBeg ?q_kBeg_ ?q_aMix ?q_lMix ?q_cMix ?q_kMix_ ?q_aTak ?q_lTak ?q_cTak ?q_kTak_ ?q_aPic ?q_lPic ?q_cPic ?q_kPic_ ?q_aWor ?q_lWor ?q_cWor ?q_kWor_ ?q_aTtl ?q_lTtl ?q_cTtl ?q_kTtl_ ?q_aPla ?q_lPla ?q_cPla ?q_kPla_ ?q_aSai ?q_lSai ?q_cSai ?q_kSai_ ?q_aLNa ?q_lLNa ?q_cLNa ?q_kLNa_ ?q_aPie ?q_lPie ?q_cPie ?q_kPie_ ?q_aRea ?q_lRea ?q_cRea ?q_kRea_ ?q_aOth ?q_lOth ?q_cOth ?q_kOth_ ?q_aTol ?q_lTol ?q_cTol ?q_kTol_ ?q_aGre ?q_lGre ?q_cGre ?q_kGre_ ?q_aLaw ?q_lLaw ?q_cLaw ?q_kLaw_ ?q_xSM ?q_xNL ?q_xGR ?q_xGL ?q_xMW ?q_xMA ?q_z_isinstance ?q_z_int ?q_z_bool ?q_z_str ?q_z_list ?q_z_tuple ?q_z_len ?q_z_all ?q_z_range ?q_z_repr ?q_z_dict ?q_z_enumerate ?q_z_ValueError ?q_z_super ?q_gM ?q_lM ?q_gI ?q_lI ?q_kI ?q_sI ?q_dI ?q_oqS ?q_tpX ?q_qn ?q_qt ?q_xST ?q_rST ?q_alST ?q_saST ?q_nnST ?q_iiST ?q_ttST ?q_kkST ?q_exST ?q_veST ?q_mrST ?q_tyST ?q_lfST ?q_cfST ?q_lcST ?q_ldST ?q_v2ST ?q_flST ?q_egST ?q_ekST ?q_edST ?q_eaST ?q_eoST ?q_emT ?q_eVT ?q_eoT ?q_epT
    (case q_gCT => first | k_is | rfl | decide +kernel | k_exc)
    (case q_gCP => first | k_is | rfl | decide +kernel | k_exc)
    (case q_gCE => first | k_is | rfl | decide +kernel | k_exc)
    (case q_aSma => first | k_is | rfl | decide +kernel | k_exc)
    (case q_lSma => first | k_is | rfl | decide +kernel | k_exc)
    (case q_cSma => first | k_is | rfl | decide +kernel | k_exc)
    (case q_kSma_ => first | k_is | rfl | decide +kernel | k_exc)
    (case q_aNam => first | k_is | rfl | decide +kernel | k_exc)
    (case q_lNam => first | k_is | rfl | decide +kernel | k_exc)
    (case q_cNam => first | k_is | rfl | decide +kernel | k_exc)
    (case q_kNam_ => first | k_is | rfl | decide +kernel | k_exc)
    (case q_aGap => first | k_is | rfl | decide +kernel | k_exc)
    (case q_lGap => first | k_is | rfl | decide +kernel | k_exc)
    (case q_cGap => first | k_is | rfl | decide +kernel | k_exc)
    (case q_kGap_ => first | k_is | rfl | decide +kernel | k_exc)
    (case q_aTit => first | k_is | rfl | decide +kernel | k_exc)
    (case q_lTit => first | k_is | rfl | decide +kernel | k_exc)
    (case q_cTit => first | k_is | rfl | decide +kernel | k_exc)
    (case q_kTit_ => first | k_is | rfl | decide +kernel | k_exc)
    (case q_aLea => first | k_is | rfl | decide +kernel | k_exc)
    (case q_lLea => first | k_is | rfl | decide +kernel | k_exc)
    (case q_cLea => first | k_is | rfl | decide +kernel | k_exc)
    (case q_kLea_ => first | k_is | rfl | decide +kernel | k_exc)
    (case q_aPpo => first | k_is | rfl | decide +kernel | k_exc)
    (case q_lPpo => first | k_is | rfl | decide +kernel | k_exc)
    (case q_cPpo => first | k_is | rfl | decide +kernel | k_exc)
    (case q_kPpo_ => first | k_is | rfl | decide +kernel | k_exc)
    (case q_aIpl => first | k_is | rfl | decide +kernel | k_exc)
    (case q_lIpl => first | k_is | rfl | decide +kernel | k_exc)
    (case q_cIpl => first | k_is | rfl | decide +kernel | k_exc)
    (case q_kIpl_ => first | k_is | rfl | decide +kernel | k_exc)
    (case q_aWof => first | k_is | rfl | decide +kernel | k_exc)
    (case q_lWof => first | k_is | rfl | decide +kernel | k_exc)
    (case q_cWof => first | k_is | rfl | decide +kernel | k_exc)
    (case q_kWof_ => first | k_is | rfl | decide +kernel | k_exc)
    (case q_aTof => first | k_is | rfl | decide +kernel | k_exc)
    (case q_lTof => first | k_is | rfl | decide +kernel | k_exc)
    (case q_cTof => first | k_is | rfl | decide +kernel | k_exc)
    (case q_kTof_ => first | k_is | rfl | decide +kernel | k_exc)
    (case q_aTxo => first | k_is | rfl | decide +kernel | k_exc)
    (case q_lTxo => first | k_is | rfl | decide +kernel | k_exc)
    (case q_cTxo => first | k_is | rfl | decide +kernel | k_exc)
    (case q_kTxo_ => first | k_is | rfl | decide +kernel | k_exc)
    (case q_aPtx => first | k_is | rfl | decide +kernel | k_exc)
    (case q_lPtx => first | k_is | rfl | decide +kernel | k_exc)
    (case q_cPtx => first | k_is | rfl | decide +kernel | k_exc)
    (case q_kPtx_ => first | k_is | rfl | decide +kernel | k_exc)
    (case q_aTin => first | k_is | rfl | decide +kernel | k_exc)
    (case q_lTin => first | k_is | rfl | decide +kernel | k_exc)
    (case q_cTin => first | k_is | rfl | decide +kernel | k_exc)
    (case q_kTin_ => first | k_is | rfl | decide +kernel | k_exc)
    (case q_aPof => first | k_is | rfl | decide +kernel | k_exc)
    (case q_lPof => first | k_is | rfl | decide +kernel | k_exc)
    (case q_cPof => first | k_is | rfl | decide +kernel | k_exc)
    (case q_kPof_ => first | k_is | rfl | decide +kernel | k_exc)
    (case q_aRpl => first | k_is | rfl | decide +kernel | k_exc)
    (case q_lRpl => first | k_is | rfl | decide +kernel | k_exc)
    (case q_cRpl => first | k_is | rfl | decide +kernel | k_exc)
    (case q_kRpl_ => first | k_is | rfl | decide +kernel | k_exc)
    (case q_aBeg => first | k_is | rfl | decide +kernel | k_exc)
    (case q_lBeg => first | k_is | rfl | decide +kernel | k_exc)
    (case q_cBeg => first | k_is | rfl | decide +kernel | k_exc)
    (case q_kBeg_ => first | k_is | rfl | decide +kernel | k_exc)
    (case q_aMix => first | k_is | rfl | decide +kernel | k_exc)
    (case q_lMix => first | k_is | rfl | decide +kernel | k_exc)
    (case q_cMix => first | k_is | rfl | decide +kernel | k_exc)
    (case q_kMix_ => first | k_is | rfl | decide +kernel | k_exc)
    (case q_aTak => first | k_is | rfl | decide +kernel | k_exc)
    (case q_lTak => first | k_is | rfl | decide +kernel | k_exc)
    (case q_cTak => first | k_is | rfl | decide +kernel | k_exc)
    (case q_kTak_ => first | k_is | rfl | decide +kernel | k_exc)
    (case q_aPic => first | k_is | rfl | decide +kernel | k_exc)
    (case q_lPic => first | k_is | rfl | decide +kernel | k_exc)
    (case q_cPic => first | k_is | rfl | decide +kernel | k_exc)
    (case q_kPic_ => first | k_is | rfl | decide +kernel | k_exc)
    (case q_aWor => first | k_is | rfl | decide +kernel | k_exc)
    (case q_lWor => first | k_is | rfl | decide +kernel | k_exc)
    (case q_cWor => first | k_is | rfl | decide +kernel | k_exc)
    (case q_kWor_ => first | k_is | rfl | decide +kernel | k_exc)
    (case q_aTtl => first | k_is | rfl | decide +kernel | k_exc)
    (case q_lTtl => first | k_is | rfl | decide +kernel | k_exc)
    (case q_cTtl => first | k_is | rfl | decide +kernel | k_exc)
    (case q_kTtl_ => first | k_is | rfl | decide +kernel | k_exc)
    (case q_aPla => first | k_is | rfl | decide +kernel | k_exc)
    (case q_lPla => first | k_is | rfl | decide +kernel | k_exc)
    (case q_cPla => first | k_is | rfl | decide +kernel | k_exc)
    (case q_kPla_ => first | k_is | rfl | decide +kernel | k_exc)
    (case q_aSai => first | k_is | rfl | decide +kernel | k_exc)
    (case q_lSai => first | k_is | rfl | decide +kernel | k_exc)
    (case q_cSai => first | k_is | rfl | decide +kernel | k_exc)
    (case q_kSai_ => first | k_is | rfl | decide +kernel | k_exc)
    (case q_aLNa => first | k_is | rfl | decide +kernel | k_exc)
    (case q_lLNa => first | k_is | rfl | decide +kernel | k_exc)
    (case q_cLNa => first | k_is | rfl | decide +kernel | k_exc)
    (case q_kLNa_ => first | k_is | rfl | decide +kernel | k_exc)
    (case q_aPie => first | k_is | rfl | decide +kernel | k_exc)
    (case q_lPie => first | k_is | rfl | decide +kernel | k_exc)
    (case q_cPie => first | k_is | rfl | decide +kernel | k_exc)
    (case q_kPie_ => first | k_is | rfl | decide +kernel | k_exc)
    (case q_aRea => first | k_is | rfl | decide +kernel | k_exc)
    (case q_lRea => first | k_is | rfl | decide +kernel | k_exc)
    (case q_cRea => first | k_is | rfl | decide +kernel | k_exc)
    (case q_kRea_ => first | k_is | rfl | decide +kernel | k_exc)
    (case q_aOth => first | k_is | rfl | decide +kernel | k_exc)
    (case q_lOth => first | k_is | rfl | decide +kernel | k_exc)
    (case q_cOth => first | k_is | rfl | decide +kernel | k_exc)
    (case q_kOth_ => first | k_is | rfl | decide +kernel | k_exc)
    (case q_aTol => first | k_is | rfl | decide +kernel | k_exc)
    (case q_lTol => first | k_is | rfl | decide +kernel | k_exc)
    (case q_cTol => first | k_is | rfl | decide +kernel | k_exc)
    (case q_kTol_ => first | k_is | rfl | decide +kernel | k_exc)
    (case q_aGre => first | k_is | rfl | decide +kernel | k_exc)
    (case q_lGre => first | k_is | rfl | decide +kernel | k_exc)
    (case q_cGre => first | k_is | rfl | decide +kernel | k_exc)
    (case q_kGre_ => first | k_is | rfl | decide +kernel | k_exc)
    (case q_aLaw => first | k_is | rfl | decide +kernel | k_exc)
    (case q_lLaw => first | k_is | rfl | decide +kernel | k_exc)
    (case q_cLaw => first | k_is | rfl | decide +kernel | k_exc)
    (case q_kLaw_ => first | k_is | rfl | decide +kernel | k_exc)
    (case q_xSM => first | k_is | rfl | decide +kernel | k_exc)
    (case q_xNL => first | k_is | rfl | decide +kernel | k_exc)
    (case q_xGR => first | k_is | rfl | decide +kernel | k_exc)
    (case q_xGL => first | k_is | rfl | decide +kernel | k_exc)
    (case q_xMW => first | k_is | rfl | decide +kernel | k_exc)
    (case q_xMA => first | k_is | rfl | decide +kernel | k_exc)
    (case q_z_isinstance => first | k_is | rfl | decide +kernel | k_exc)
    (case q_z_int => first | k_is | rfl | decide +kernel | k_exc)
    (case q_z_bool => first | k_is | rfl | decide +kernel | k_exc)
    (case q_z_str => first | k_is | rfl | decide +kernel | k_exc)
    (case q_z_list => first | k_is | rfl | decide +kernel | k_exc)
    (case q_z_tuple => first | k_is | rfl | decide +kernel | k_exc)
    (case q_z_len => first | k_is | rfl | decide +kernel | k_exc)
    (case q_z_all => first | k_is | rfl | decide +kernel | k_exc)
    (case q_z_range => first | k_is | rfl | decide +kernel | k_exc)
    (case q_z_repr => first | k_is | rfl | decide +kernel | k_exc)
    (case q_z_dict => first | k_is | rfl | decide +kernel | k_exc)
    (case q_z_enumerate => first | k_is | rfl | decide +kernel | k_exc)
    (case q_z_ValueError => first | k_is | rfl | decide +kernel | k_exc)
    (case q_z_super => first | k_is | rfl | decide +kernel | k_exc)
    (case q_gM => first | k_is | rfl | decide +kernel | k_exc)
    (case q_lM => first | k_is | rfl | decide +kernel | k_exc)
    (case q_gI => first | k_is | rfl | decide +kernel | k_exc)
    (case q_lI => first | k_is | rfl | decide +kernel | k_exc)
    (case q_kI => exact ⟨⟨_, _, rfl, rfl⟩, ⟨_, _, rfl, rfl⟩, ⟨_, _, rfl, rfl⟩, ⟨_, _, rfl, rfl⟩, ⟨_, _, rfl, rfl⟩, ⟨_, _, rfl, rfl⟩, ⟨_, _, rfl, rfl⟩, ⟨_, _, rfl, rfl⟩, ⟨_, _, rfl, rfl⟩,  trivial⟩)
    (case q_sI => first | k_is | rfl | decide +kernel | k_exc)
    (case q_dI => rfl)
    (case q_oqS => first | k_is | rfl | decide +kernel | k_exc)
    (case q_tpX => first | k_is | rfl | decide +kernel | k_exc)
    (case q_qn => first | k_is | rfl | decide +kernel | k_exc)
    (case q_qt => first | k_is | rfl | decide +kernel | k_exc)
    (case q_xST => first | k_is | rfl | decide +kernel | k_exc)
    (case q_rST => first | k_is | rfl | decide +kernel | k_exc)
    (case q_alST => first | k_is | rfl | decide +kernel | k_exc)
    (case q_saST => first | k_is | rfl | decide +kernel | k_exc)
    (case q_nnST => first | k_is | rfl | decide +kernel | k_exc)
    (case q_iiST => first | k_is | rfl | decide +kernel | k_exc)
    (case q_ttST => first | k_is | rfl | decide +kernel | k_exc)
    (case q_kkST => first | k_is | rfl | decide +kernel | k_exc)
    (case q_exST => first | k_is | rfl | decide +kernel | k_exc)
    (case q_veST => first | k_is | rfl | decide +kernel | k_exc)
    (case q_mrST => first | k_is | rfl | decide +kernel | k_exc)
    (case q_tyST => first | k_is | rfl | decide +kernel | k_exc)
    (case q_lfST => first | k_is | rfl | decide +kernel | k_exc)
    (case q_cfST => first | k_is | rfl | decide +kernel | k_exc)
    (case q_lcST => first | k_is | rfl | decide +kernel | k_exc)
    (case q_ldST => first | k_is | rfl | decide +kernel | k_exc)
    (case q_v2ST => first | k_is | rfl | decide +kernel | k_exc)
    (case q_flST => first | k_is | rfl | decide +kernel | k_exc)
    (case q_egST => first | k_is | rfl | decide +kernel | k_exc)
    (case q_ekST => first | k_is | rfl | decide +kernel | k_exc)
    (case q_edST => first | k_is | rfl | decide +kernel | k_exc)
    (case q_eaST => first | k_is | rfl | decide +kernel | k_exc)
    (case q_eoST => first | k_is | rfl | decide +kernel | k_exc)
    (case q_emT => first | k_is | rfl | decide +kernel | k_exc)
    (case q_eVT => first | k_is | rfl | decide +kernel | k_exc)
    (case q_eoT => first | k_is | rfl | decide +kernel | k_exc)
    (case q_epT => first | k_is | rfl | decide +kernel | k_exc)
