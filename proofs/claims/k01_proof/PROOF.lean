import PyProof.Rows.All
import Wide.All
import OpenK.AllK
import Wide.FinOn
import HandS.ForMost
import HandS.Wide
import HandS.Walk
import HandS.Flow
import HandS.Codes
import HandS.IsInst
import HandS.Deep
import HandS.Exc
import HandS.ExcOwn
import HandS.WordsExc
import KE.KExcSuper
import HandS.Ends
import HandS.SetFor
import HandS.TupAny
import HandS.Style
import HandS.ExcIs
import HandS.ExcField
import KE.KIsAll
import KE.KTryMore
import HandS.Lambda
import HandS.OwnEq
import PyProof.InstNe
import PyProof.ReprRoads
import PyProof.Lay0
import HandS.EndTab
import HandS.MakeKwOnly
import OpenK.KOps
import PyProof.EqKinds
import PyProof.ReprLen
import PyProof.StrLawsRepr
import KE.DataCmp
import KE.KNestM
import PySem.Challenge.RW_termyard_k01_signs_made
set_option Elab.async false
set_option linter.all false
set_option maxRecDepth 100000
set_option maxHeartbeats 4000000
namespace K1
open PySem PySem.Spec PyProof.Rows L2
def topS (i : Nat) : Stmt := PySem.Challenge.pw_termyard_k01_signs_made.main.body.getD i (.Pass ⟨0, 0, 0, 0⟩)
abbrev sBegun : Stmt := topS 22
abbrev sMixed : Stmt := topS 23
abbrev sTake : Stmt := topS 24
abbrev sPick : Stmt := topS 25
/-- the state's dict -/
def stK (g c : Addr) (r t : Int) : List (Key × V) := [(.inr "great", .ref g), (.inr "cells", .ref c), (.inr "rest", .int r), (.inr "turn", .int t)]
/-- what is drawn from stands at d: the great cells at g, all cells at c; at most t numbers were mixed -/
structure Gen (d g c : Addr) (t : Nat) (H : Hp) : Prop where
  ne : c ≠ g
  ex : ∃ (gs cs : List Int) (r : Int) (u : Nat), H d = some (.dK (stK g c r u)) ∧ H g = some (.lst (gs.map V.int)) ∧ H c = some (.lst (cs.map V.int)) ∧ u ≤ t
/-- all but d and g stand as they did -/
def Kp (d g : Addr) (H H' : Hp) : Prop := ∀ b o, b ≠ d → b ≠ g → H b = some o → H' b = some o
theorem Kp.refl {d g : Addr} {H : Hp} : Kp d g H H := fun _ _ _ _ h => h
theorem Kp.trans {d g : Addr} {H H1 H2 : Hp} (a : Kp d g H H1) (b : Kp d g H1 H2) : Kp d g H H2 := fun x o h1 h2 e => b x o h1 h2 (a x o h1 h2 e)
theorem Kp.of {d g : Addr} {H H1 : Hp} (a : Same H H1) : Kp d g H H1 := fun x o _ _ e => a x o e
theorem Kp.upd {d g p : Addr} {o : HO} {H H1 : Hp} (a : Kp d g H H1) (h : H p = none ∨ p = d ∨ p = g) : Kp d g H (upd H1 p o) := fun x u h1 h2 e => by
  by_cases hx : x = p
  · subst hx
    rcases h with h | h | h
    · rw [h] at e
      cases e
    · exact absurd h h1
    · exact absurd h h2
  · rw [upd_ne hx]
    exact a x u h1 h2 e
theorem Gen.mono {d g c : Addr} {t t' : Nat} {H : Hp} (G : Gen d g c t H) (h : t ≤ t') : Gen d g c t' H := by
  obtain ⟨n, gs, cs, r, u, e1, e2, e3, e4⟩ := G
  exact ⟨n, gs, cs, r, u, e1, e2, e3, Nat.le_trans e4 h⟩
theorem Gen.same {d g c : Addr} {t : Nat} {H H' : Hp} (G : Gen d g c t H) (s : Same H H') : Gen d g c t H' := by
  obtain ⟨n, gs, cs, r, u, e1, e2, e3, e4⟩ := G
  exact ⟨n, gs, cs, r, u, s _ _ e1, s _ _ e2, s _ _ e3, e4⟩
theorem Same.new {H H1 : Hp} {p : Addr} {o : HO} (a : Same H H1) (h : H1 p = none) : Same H (upd H1 p o) := fun x u e => by
  rw [upd_ne (ne_of_none (a x u e) h)]
  exact a x u e
theorem Gen.new {d g c p : Addr} {o : HO} {t : Nat} {H : Hp} (G : Gen d g c t H) (h : H p = none) : Gen d g c t (upd H p o) := G.same (Same.new (Same.refl H) h)
theorem Gen.free {d g c : Addr} {t t' : Nat} {H H' : Hp} (G : Gen d g c t H) (G' : Gen d g c t' H') (k : Kp d g H H') {p : Addr} (h : H' p = none) : H p = none := by
  cases q : H p with
  | none => rfl
  | some o =>
    obtain ⟨_, _, _, _, _, e1, e2, _⟩ := G'
    have h1 : p ≠ d := fun z => by rw [z, e1] at h; cases h
    have h2 : p ≠ g := fun z => by rw [z, e2] at h; cases h
    rw [k p o h1 h2 q] at h
    cases h

theorem pow10_18 : CPow 10 18 := ⟨by decide, by decide, by decide⟩
theorem stK_merge (g c : Addr) : mergeK [] (stK g c 0 0) = stK g c 0 0 := by
  rfl
def spBegun (K : PySem.W.Frag) : Sp := fun vs H Q _ => ∃ (a : Addr) (ns : List Int), vs = [.ref a] ∧ SqL K H a (ns.map V.int) ∧ ns.length ≤ 63 ∧
  ∀ (d g c : Addr) (H' : Hp), Gen d g c 0 H' → Same H H' → H d = none → H g = none → Q (.ref d) H'
def spMixed : Sp := fun vs H Q _ => ∃ (d g c : Addr) (t : Nat), vs = [.ref d] ∧ Gen d g c t H ∧ t < 2 ^ 30 ∧
  ∀ (v : Int) (H' : Hp), Gen d g c (t + 1) H' → Kp d g H H' → Q (.int v) H'
def spTake : Sp := fun vs H Q _ => ∃ (d g c : Addr) (t : Nat) (n : Int), vs = [.ref d, .int n] ∧ Gen d g c t H ∧ t < 2 ^ 30 ∧ 0 < n ∧ n < 2 ^ 60 ∧
  ∀ (v : Int) (H' : Hp), 0 ≤ v → v < n → Gen d g c (t + 1) H' → Kp d g H H' → Q (.int v) H'
/-- the built-ins that the text leaves alone -/
structure Txt (mg : Str → Option Value) : Prop where
  list : mg "list" = none
section
variable {P : Program} {w : World} {K : PySem.W.Frag} {mg : Str → Option Value} {base : Heap}
theorem scBegun : FnScope ["_law_script", "_law_wide", "_law_cell"] ["_law_script"] (defScope sBegun) := ⟨rfl, rfl, rfl, by decide +kernel, rfl, by decide +kernel, by decide +kernel⟩
theorem ok_begun {f : Addr} {fd : FuncData} (F : Fun K "_law_begun" "_law_begun" sBegun f fd) (T : Txt mg) : FnOk P w K mg base CX0 1 f fd ["_law_script"] (spBegun K) := by
  refine F.ok scBegun (fun vs H Q E h => ?_) (fun cdv A outer s H vs Q E hr h => ?_)
  · obtain ⟨a, ns, rfl, _⟩ := h
    rfl
  · obtain ⟨a, ns, rfl, hS, hl, k⟩ := h
    refine ⟨_, pss_cons (ps_setLc (i := 1) (own := [("_law_cell", 2)]) (g := gName 2) rfl scBegun.nd rfl rfl (sw_true rfl rfl rfl (by decide +kernel)) (pi_list (pv 0)) (blkOk_by (N := ["_law_script", "_law_wide", "_law_cell"]) (sc := defScope sBegun) (by decide +kernel))
        (fun _ _ _ _ _ => pg_name (i := 2) scBegun.nd rfl (Or.inl rfl)) (fun _ _ _ _ _ => pts_one (pt_cmpR op_ge (pv 2) (pe_op op_pow pe_int pe_int) (nomark _))) (fun _ _ _ _ _ => pe_op op_sub (pv 2) (pe_op op_pow pe_int pe_int)))
      (pss_one (ps_ret (pe_disp (pps_cons pe_str (pv 1) (pps_cons pe_str (pe_callTy call_list_of (by rfl) T.list (by decide +kernel) (pa_cons (pv 0) pa_nil)) (pps_cons pe_str pe_int (pps_cons pe_str pe_int pps_nil)))) (by rfl) (by rfl) (fun z => by cases z) (by decide)))), ?_⟩
    refine ⟨_, rfl, a, rfl, ⟨_, hS⟩, fun D hD => lc_list (K := K) (a := a) (xs := ns.map V.int) (fun i H' => ∃ gs : List Int, Same H H' ∧ H' D = some (.lst (gs.map V.int)) ∧ gs.length ≤ i)
      ⟨[], Same.new (Same.refl H) hD, upd_same, Nat.le_refl _⟩ (fun i H' _ ⟨_, s1, _⟩ => s1.seq hS) ?_ ?_⟩
    · rintro i x H' hi ⟨gs, s1, e1, l1⟩
      have hil := (List.getElem?_eq_some_iff.mp hi).1
      rw [List.length_map] at hil
      obtain ⟨z, rfl⟩ : ∃ z, x = V.int z := by
        rw [List.getElem?_map] at hi
        cases e : ns[i]? with
        | none => rw [e] at hi; cases hi
        | some z => rw [e] at hi; exact ⟨z, (Option.some.inj hi).symm⟩
      refine ⟨rfl, ?_⟩
      refine ⟨_, rfl, _, _, rfl, rfl, pow10_18, _, _, rfl, rfl, _, rfl, ?_⟩
      refine ite2 (fun _ => ?_) (fun _ => ?_)
      · refine ⟨_, rfl, _, _, rfl, rfl, pow10_18, _, _, rfl, rfl, gs.map V.int, e1, (by rw [List.length_map, sizeLine_eq]; omega), gs ++ [z - 10 ^ Int.toNat 18], ?_, ?_, ?_⟩
        · exact fun b o e => by
            rw [upd_ne (fun z => by rw [z, hD] at e; cases e)]
            exact s1 b o e
        · rw [upd_same, List.map_append]
          rfl
        · rw [List.length_append]
          exact Nat.succ_le_succ l1
      · exact ⟨gs, s1, e1, Nat.le_succ_of_le l1⟩
    · rintro H' ⟨gs, s1, e1, l1⟩
      intro p hp
      refine ⟨_, rfl, ⟨_, rfl, a, _, rfl, .inl ((Same.new s1 hp).seq hS), fun l hl => ⟨?_, stK D l 0 0, rfl, (by show 4 ≤ 15; decide), ?_⟩⟩⟩
      · rw [upd_ne (fun z => by rw [z, upd_same] at hl; cases hl), upd_same]
      · rw [stK_merge]
        have npD : D ≠ p := ne_of_none e1 hp
        have nlp : p ≠ l := fun z => by rw [z, upd_same] at hl; cases hl
        have nlD : l ≠ D := fun z => by rw [z, upd_ne npD, e1] at hl; cases hl
        have hl' : H' l = none := by rw [upd_ne nlp.symm] at hl; exact hl
        have s2 : Same H (upd (upd (upd H' p (.dK [])) l (.lst (ns.map V.int))) p (.dK (stK D l 0 0))) := fun b o e => by
          have e' := s1 b o e
          rw [upd_ne (ne_of_none e' hp), upd_ne (ne_of_none e' hl'), upd_ne (ne_of_none e' hp)]
          exact e'
        refine k p D l _ ⟨nlD, gs, ns, 0, 0, upd_same, ?_, ?_, Nat.le_refl _⟩ s2 (Same.free s1 hp) hD
        · rw [upd_ne npD, upd_ne nlD.symm, upd_ne npD]
          exact e1
        · rw [upd_ne nlp.symm, upd_same]

def primes : List Int := [2147483629, 2147483587, 2147483579, 2147483563, 2147483549, 2147483543]
theorem primes_ok : ∀ z ∈ primes, 0 < z ∧ z < 2147483648 := by decide
theorem map_at {ns : List Int} {i : Nat} {x : V} (hi : (ns.map V.int)[i]? = some x) : ∃ z, ns[i]? = some z ∧ x = V.int z := by
  rw [List.getElem?_map] at hi
  cases e : ns[i]? with
  | none => rw [e] at hi; cases hi
  | some z => rw [e] at hi; exact ⟨z, rfl, (Option.some.inj hi).symm⟩
theorem stK_turn (g c : Addr) (r t : Int) : valV (stK g c r t) (Sum.inr "turn" : Key) = some (.int t) := rfl
theorem stK_rest (g c : Addr) (r t : Int) : valV (stK g c r t) (Sum.inr "rest" : Key) = some (.int r) := rfl
theorem stK_great (g c : Addr) (r t : Int) : valV (stK g c r t) (Sum.inr "great" : Key) = some (.ref g) := rfl
theorem stK_cells (g c : Addr) (r t : Int) : valV (stK g c r t) (Sum.inr "cells" : Key) = some (.ref c) := rfl
theorem stK_turn' (g c : Addr) (r t y : Int) : putK (stK g c r t) (Sum.inr "turn" : Key) (.int y) = stK g c r y := rfl
theorem stK_rest' (g c : Addr) (r t y : Int) : putK (stK g c r t) (Sum.inr "rest" : Key) (.int y) = stK g c y t := rfl
theorem scMixed : FnScope ["_law_state", "_law_turn", "_law_found", "_law_prime", "_law_blend", "_law_cell"] ["_law_state"] (defScope sMixed) := ⟨rfl, rfl, rfl, by decide +kernel, rfl, by decide +kernel, by decide +kernel⟩
theorem ok_mixed {f : Addr} {fd : FuncData} (F : Fun K "_law_mixed" "_law_mixed" sMixed f fd) (T : Txt mg) : FnOk P w K mg base CX0 1 f fd ["_law_state"] spMixed := by
  refine F.ok scMixed (fun vs H Q E h => ?_) (fun cdv A outer s H vs Q E hr h => ?_)
  · obtain ⟨d, g, c, t, rfl, _⟩ := h
    rfl
  · obtain ⟨d, g, c, t, rfl, G, ht, k⟩ := h
    obtain ⟨ncg, gs, cs, r, u, e1, e2, e3, hu⟩ := G
    have hu' := hu_of hr
    refine ⟨_, pss_cons (ps_set (i := 1) scMixed.nd rfl (Or.inl rfl) (pe_op op_add (pe_dget hu' (pv 0) pe_str (fun _ _ => rfl)) pe_int))
      (pss_cons (ps_dput hu' (pv 0) pe_str (pv 1) rfl)
      (pss_cons (ps_set (i := 2) scMixed.nd rfl (Or.inl rfl) pe_int)
      (pss_cons (ps_for PassesOwn.never rfl (pi_list (pe_lst (pa_cons pe_int (pa_cons pe_int (pa_cons pe_int (pa_cons pe_int (pa_cons pe_int (pa_cons pe_int pa_nil)))))))) (pg_name (i := 3) scMixed.nd rfl (Or.inl rfl))
        (pss_cons (ps_set (i := 4) scMixed.nd rfl (Or.inl rfl) (pe_op op_add (pe_op op_mul pe_int (pv 1)) (pe_op op_fdiv (pv 3) pe_int)))
        (pss_cons (ps_for PassesOwn.never rfl (pi_list (pe_dget hu' (pv 0) pe_str (fun _ _ => rfl))) (pg_name (i := 5) scMixed.nd rfl (Or.inl rfl))
          (pss_one (ps_set (i := 4) scMixed.nd rfl (Or.inl rfl) (pe_op op_mod (pe_op op_add (pe_op op_mul (pv 4) pe_int) (pv 5)) (pv 3)))))
        (pss_one (ps_set (i := 2) scMixed.nd rfl (Or.inl rfl) (pe_op op_add (pe_op op_mul (pv 2) pe_int) (pe_op op_mod (pe_op op_pow (pv 4) pe_int) (pv 3))))))))
      (pss_one (ps_ret (pv 2)))))), ?_⟩
    refine ⟨_, rfl, d, _, rfl, DGet.k (k := Sum.inr "turn") e1, _, _, rfl, rfl, ?_⟩
    refine ⟨_, rfl, _, rfl, d, _, rfl, DPut.k (k := Sum.inr "turn") e1 (by show 4 < sizeLine; decide), ?_⟩
    rw [stK_turn']
    refine ⟨(by show 6 ≤ sizeLine; decide), fun p hp => ?_⟩
    have hdg : g ≠ d := ne_of e2 e1 (by intro z; cases z)
    have hdc : c ≠ d := ne_of e3 e1 (by intro z; cases z)
    have fin : ∀ (v : Int) (H' : Hp), Same (upd (upd H d (.dK (stK g c r (u + 1)))) p (.lst (primes.map V.int))) H' → Q (.int v) H' := fun v H' sm => by
      have npd : ∀ b o, upd H d (.dK (stK g c r (u + 1))) b = some o → H' b = some o := fun b o e => sm b o (by rw [upd_ne (ne_of_none e hp)]; exact e)
      refine k v H' ⟨ncg, gs, cs, r, u + 1, npd _ _ upd_same, npd _ _ (by rw [upd_ne hdg]; exact e2), npd _ _ (by rw [upd_ne hdc]; exact e3), Nat.succ_le_succ hu⟩ fun b o h1 h2 e => npd b o (by rw [upd_ne h1]; exact e)
    refine ⟨p, rfl, ⟨_, SqL.of (xs := primes.map V.int) upd_same⟩, for_list (K := K) (a := p) (xs := primes.map V.int)
      (fun i σ H' => ∃ (fnd : Int) (v3 v4 v5 : Option V), σ = [some (.ref d), some (.int (u + 1)), some (.int fnd), v3, v4, v5] ∧ Same (upd (upd H d (.dK (stK g c r (u + 1)))) p (.lst (primes.map V.int))) H')
      ⟨0, none, none, none, rfl, Same.refl _⟩ (fun i σ H' _ ⟨_, _, _, _, _, sm⟩ => sm.seq (SqL.of upd_same)) ?_ ?_⟩
    · rintro i x σ H' hi ⟨fnd, v3, v4, v5, rfl, sm⟩
      obtain ⟨pr, hpr, rfl⟩ := map_at hi
      obtain ⟨p0, p1⟩ := primes_ok pr (List.mem_of_getElem? hpr)
      have npd : ∀ b o, upd H d (.dK (stK g c r (u + 1))) b = some o → H' b = some o := fun b o e => sm b o (by rw [upd_ne (ne_of_none e hp)]; exact e)
      refine ⟨_, rfl, _, _, rfl, rfl, .inl (by constructor <;> decide), _, rfl, _, _, rfl, rfl, ⟨by decide, by decide⟩, _, _, rfl, rfl, ?_⟩
      refine ⟨_, rfl, d, _, rfl, DGet.k (k := Sum.inr "cells") (npd _ _ upd_same), c, rfl, ⟨_, SqL.of (xs := cs.map V.int) (npd _ _ (by rw [upd_ne hdc]; exact e3))⟩, for_list (K := K) (a := c) (xs := cs.map V.int)
        (fun j σ H2 => ∃ (b : Int) (v5 : Option V), σ = [some (.ref d), some (.int (u + 1)), some (.int fnd), some (.int pr), some (.int b), v5] ∧ H2 = H' ∧ 0 ≤ b ∧ b < 2 ^ 50)
        ⟨_, _, rfl, rfl, ?_, ?_⟩ (fun j σ H2 _ ⟨_, _, _, z, _⟩ => by rw [z]; exact SqL.of (npd _ _ (by rw [upd_ne hdc]; exact e3))) ?_ ?_⟩
      · omega
      · omega
      · rintro j y σ H2 hj ⟨b, v5', rfl, rfl, b0, b1⟩
        obtain ⟨cell, _, rfl⟩ := map_at hj
        refine ⟨_, rfl, _, _, rfl, rfl, .inr (by constructor <;> decide), _, rfl, _, _, rfl, rfl, _, rfl, _, _, rfl, rfl, p0, ?_⟩
        exact ⟨_, _, rfl, rfl, Int.emod_nonneg _ (by omega), Int.lt_trans (Int.emod_lt_of_pos _ p0) (by omega)⟩
      · rintro σ H2 ⟨b, v5', rfl, rfl, b0, b1⟩
        refine ⟨_, rfl, _, _, rfl, rfl, .inr (by constructor <;> decide), _, rfl, _, _, rfl, rfl, ⟨by decide, by decide, by omega⟩, _, rfl, _, _, rfl, rfl, p0, _, _, rfl, rfl, ?_⟩
        exact ⟨_, _, _, _, rfl, sm⟩
    · rintro σ H' ⟨fnd, v3, v4, v5, rfl, sm⟩
      exact ⟨_, rfl, fin _ _ sm⟩

theorem dp_ints (K : PySem.W.Frag) (H : Hp) : ∀ gs : List Int, DpAll K H (gs.map V.int) (gs.map PyData.int)
  | [] => .nil
  | z :: r => .cons (.int z) (dp_ints K H r)
theorem lay_ints : ∀ gs : List Int, PyData.canLayAll0 (gs.map PyData.int) = true
  | [] => rfl
  | z :: r => by
    have ih := lay_ints r
    simpa [PyData.canLayAll0, PyData.canLay0] using ih
theorem depth_ints : ∀ gs : List Int, PyData.depthAll (gs.map PyData.int) ≤ 1
  | [] => by simp [PyData.depthAll]
  | z :: r => by
    have ih := depth_ints r
    simp [PyData.depthAll, PyData.depth] at ih ⊢
    omega
theorem shaped_ints (gs : List Int) : SeqAt.shaped (.list (gs.map PyData.int)) = true := by
  unfold SeqAt.shaped
  rw [Bool.and_eq_true]
  refine ⟨?_, ?_⟩
  · simpa [PyData.canLay0] using lay_ints gs
  · have := depth_ints gs
    simp [PyData.depth]
    omega

theorem seq0 (n : Nat) : seqIndex? 0 (n + 1) = some 0 := by
  unfold seqIndex?
  simp
theorem eqv_ints_nil (gs : List Int) : PyData.eqv (.list (gs.map PyData.int)) (.list []) = gs.isEmpty := by
  cases gs <;> rfl
theorem scTake : FnScope ["_law_state", "_law_size", "_law_found"] ["_law_state", "_law_size"] (defScope sTake) := ⟨rfl, rfl, rfl, by decide +kernel, rfl, by decide +kernel, by decide +kernel⟩
theorem ok_take {f fM : Addr} {fd fdM : FuncData} (F : Fun K "_law_take" "_law_take" sTake f fd) (FM : Fun K "_law_mixed" "_law_mixed" sMixed fM fdM) (bM : Binds K fdM ["_law_state"] []) (gM : mg "_law_mixed" = some (.ref fM)) (kM : PySem.W.keepIn K (.ref fM) = true) (T : Txt mg) : FnOk P w K mg base CX0 2 f fd ["_law_state", "_law_size"] spTake := by
  have GM : FnOk P w K mg base CX0 1 fM fdM ["_law_state"] spMixed := ok_mixed FM T
  refine F.ok scTake (fun vs H Q E h => ?_) (fun cdv A outer s H vs Q E hr h => ?_)
  · obtain ⟨d, g, c, t, n, rfl, _⟩ := h
    rfl
  · obtain ⟨d, g, c, t, n, rfl, G, ht, n0, n1, k⟩ := h
    obtain ⟨ncg, gs, cs, r, u, e1, e2, e3, hu⟩ := id G
    have hu' := hu_of hr
    refine ⟨_, pss_cons (ps_if (PW.pt (pw_and (pt_cmpR op_eq (pe_dget hu' (pv 0) pe_str (fun _ _ => rfl)) pe_int (nomark _)) (pw_and1 (pt_cmpR (op_neD hr.units) (pe_dget hu' (pv 0) pe_str (fun _ _ => rfl)) (pe_lst pa_nil) (nomark _)))))
        (pss_one (ps_dput hu' (pv 0) pe_str (pe_bm PySem.F.plainAttrs_list PySem.F.slot_list_pop PySem.F.type_list_pop mt_popAt (pe_dget hu' (pv 0) pe_str (fun _ _ => rfl)) (pa_cons pe_int pa_nil)) rfl))
        (pss_one (ps_if (pt_cmpR op_eq (pe_dget hu' (pv 0) pe_str (fun _ _ => rfl)) pe_int (nomark _))
          (pss_one (ps_dput hu' (pv 0) pe_str (pe_call GM hr rfl gM kM bM .nil pass0 (pa_cons (pv 0) pa_nil)) rfl)) pss_nil)))
      (pss_cons (ps_set (i := 2) scTake.nd rfl (Or.inl rfl) (pe_op op_mod (pe_dget hu' (pv 0) pe_str (fun _ _ => rfl)) (pv 1)))
      (pss_cons (ps_dput hu' (pv 0) pe_str (pe_op op_fdivW (pe_dget hu' (pv 0) pe_str (fun _ _ => rfl)) (pv 1)) rfl)
      (pss_one (ps_ret (pv 2))))), ?_⟩
    -- what stands behind the if
    have last : ∀ (t' : Nat) (H' : Hp), t' ≤ t + 1 → Gen d g c t' H' → Kp d g H H' → ∀ σ : L2.St, σ = [some (.ref d), some (.int n), none] → tSeq (tAsg (tOp (rI (fun _ j => 0 < j) fun i j => .int (i % j)) (tDGet (tVar 0) (tC (.str "rest"))) (tVar 1)) (gName 2)) (tSeq (sDPut (tVar 0) (tC (.str "rest")) (tOp (rI CDivW fun i j => .int (i / j)) (tDGet (tVar 0) (tC (.str "rest"))) (tVar 1))) (tRet (tVar 2))) { nx := fun _ H' => Q .non H', rt := Q } σ H' := by
      rintro t' H' ht' ⟨ncg, gs, cs, r, u, e1, e2, e3, hu⟩ kp σ rfl
      refine ⟨_, rfl, d, _, rfl, DGet.k (k := Sum.inr "rest") e1, _, rfl, _, _, rfl, rfl, n0, ?_⟩
      refine ⟨_, rfl, d, _, rfl, DGet.k (k := Sum.inr "rest") e1, _, rfl, _, _, rfl, rfl, wide_div (b := 60) n0 (by omega) (by decide) (by decide), _, rfl, d, _, rfl, DPut.k (k := Sum.inr "rest") e1 (by show 4 < sizeLine; decide), ?_⟩
      rw [stK_rest']
      have hdg : g ≠ d := ne_of e2 e1 (by intro z; cases z)
      have hdc : c ≠ d := ne_of e3 e1 (by intro z; cases z)
      refine ⟨_, rfl, k _ _ (Int.emod_nonneg _ (by omega)) (Int.emod_lt_of_pos _ n0) ⟨ncg, gs, cs, _, u, upd_same, by rw [upd_ne hdg]; exact e2, by rw [upd_ne hdc]; exact e3, Nat.le_trans hu ht'⟩ (kp.upd (.inr (.inl rfl)))⟩
    refine ⟨_, rfl, d, _, rfl, DGet.k (k := Sum.inr "rest") e1, rfl, _, rfl, ?_⟩
    have hn2 : ∀ p, H p = none → ∀ o, Same H (upd H p o) := fun p hp o => Same.new (Same.refl H) hp
    have tail2 : ∀ (H1 : Hp), Same H H1 → (decide (V.int r = V.int 0) = true ∨ ¬ decide (V.int r = V.int 0) = true) →
        tIfS (tTest (tOp rEq (tDGet (tVar 0) (tC (.str "rest"))) (tC (.int 0)))) (sDPut (tVar 0) (tC (.str "rest")) (tCall spMixed [] E0 (tCons (tVar 0) tNil))) tNext
          { nx := tSeq (tAsg (tOp (rI (fun _ j => 0 < j) fun i j => .int (i % j)) (tDGet (tVar 0) (tC (.str "rest"))) (tVar 1)) (gName 2)) (tSeq (sDPut (tVar 0) (tC (.str "rest")) (tOp (rI CDivW fun i j => .int (i / j)) (tDGet (tVar 0) (tC (.str "rest"))) (tVar 1))) (tRet (tVar 2))) { nx := fun _ H' => Q .non H', rt := Q }, rt := Q }
          [some (.ref d), some (.int n), none] H1 := by
      intro H1 s1 hc
      refine ⟨_, rfl, d, _, rfl, DGet.k (k := Sum.inr "rest") (s1 _ _ e1), rfl, _, rfl, ?_⟩
      refine ite2 (fun _ => ?_) (fun _ => ?_)
      · refine ⟨_, rfl, d, g, c, t, rfl, G.same s1, ht, fun v H2 G2 k2 => ?_⟩
        obtain ⟨_, gs2, cs2, r2, u2, a1, a2, a3, a4⟩ := id G2
        have hdg : g ≠ d := ne_of a2 a1 (by intro z; cases z)
        have hdc : c ≠ d := ne_of a3 a1 (by intro z; cases z)
        refine ⟨_, rfl, d, _, rfl, DPut.k (k := Sum.inr "rest") a1 (by show 4 < sizeLine; decide), ?_⟩
        rw [stK_rest']
        exact last (t + 1) _ (Nat.le_refl _) ⟨ncg, gs2, cs2, _, u2, upd_same, by rw [upd_ne hdg]; exact a2, by rw [upd_ne hdc]; exact a3, a4⟩ (((Kp.of s1).trans k2).upd (.inr (.inl rfl))) _ rfl
      · exact last t H1 (Nat.le_succ _) (G.same s1) (Kp.of s1) _ rfl
    refine ite2 (fun _ => ?_) (fun hc => ?_)
    · refine ⟨_, rfl, d, _, rfl, DGet.k (k := Sum.inr "great") e1, (by show 0 ≤ sizeLine; decide), fun p hp => ⟨.list (gs.map PyData.int), .list [], Dp.lst (SqL.of (hn2 p hp _ _ _ e2)) (dp_ints _ _ gs), Dp.lst (SqL.of upd_same) .nil, shaped_ints gs, by decide, _, rfl, ?_⟩⟩
      have s1 := hn2 p hp (.lst [])
      rw [eqv_ints_nil]
      cases gs with
      | nil => exact iteF (tail2 _ s1 (Decidable.em _))
      | cons z gs =>
        refine iteT ?_
        have hdg : g ≠ d := ne_of e2 e1 (by intro z; cases z)
        have hdc : c ≠ d := ne_of e3 e1 (by intro z; cases z)
        refine ⟨_, rfl, d, _, rfl, DGet.k (k := Sum.inr "great") (s1 _ _ e1), .inl ⟨rfl, _, SqL.of (s1 _ _ e2)⟩, g, _, 0, 0, .int z, rfl, rfl, s1 _ _ e2, by decide, by decide, seq0 _, rfl, ?_⟩
        refine ⟨_, rfl, d, _, rfl, DPut.k (k := Sum.inr "rest") (by rw [upd_ne hdg.symm]; exact s1 _ _ e1) (by show 4 < sizeLine; decide), ?_⟩
        rw [stK_rest']
        exact last t _ (Nat.le_succ _) ⟨ncg, gs, cs, _, u, upd_same, by rw [upd_ne hdg, upd_same]; rfl, by rw [upd_ne hdc, upd_ne ncg]; exact s1 _ _ e3, hu⟩ (((Kp.of s1).upd (.inr (.inr rfl))).upd (.inr (.inl rfl))) _ rfl
    · exact tail2 H (Same.refl H) (Decidable.em _)
end
end K1
set_option Elab.async false
set_option linter.all false
set_option maxRecDepth 100000
set_option maxHeartbeats 4000000
namespace K1
open PySem PySem.Spec PyProof.Rows L2
def isLow (c : Nat) : Bool := decide (97 ≤ c ∧ c ≤ 122)
def nameB (w : Str) : Bool := decide (1 ≤ w.length ∧ w.length ≤ 8) && w.cps.toList.all isLow
def ownW : List Str := Txt.split (Str.ofString "stay none turn any then else not often part parts plan row heap pair plain fill" ++ Str.ofString " same over tell try rest is one some lift run lead skip low high") " "
theorem ownW_ok : ∀ w ∈ ownW, nameB w = true := by decide +kernel
theorem ownW_len : 0 < ownW.length ∧ ownW.length ≤ 40 := by decide +kernel
abbrev abc : Str := Str.ofString "abcdefghijklmnopqrstuvwxyz"
theorem abc_l : abc.cps.toList = (List.range 26).map (· + 97) := by decide +kernel
theorem abc_len : abc.length = 26 := by decide +kernel
theorem abc_low : ∀ c ∈ abc.cps.toList, isLow c = true := by decide +kernel
theorem len_toList (w : Str) : w.cps.toList.length = w.length := by
  simp [Str.length]
theorem app_l (a b : Str) : (a ++ b).cps.toList = a.cps.toList ++ b.cps.toList := by
  show (a.cps ++ b.cps).toList = _
  simp
theorem ext_l {a b : Str} (h : a.cps.toList = b.cps.toList) : a = b := by
  cases a with
  | mk x =>
    cases b with
    | mk y =>
      have : x = y := by
        have h' : x.toList = y.toList := h
        exact Array.toList_inj.mp h'
      rw [this]
/-- a word made otherwise: its first six letters, z, one more -/
def cand (w : Str) (c : Nat) : Str := (cutS w none (some 6) ++ Str.ofString "z") ++ ⟨#[c]⟩
theorem z_l : (Str.ofString "z").cps.toList = [122] := by decide +kernel
theorem cand_l (w : Str) (c : Nat) : (cand w c).cps.toList = w.cps.toList.take 6 ++ [122, c] := by
  unfold cand
  rw [app_l, app_l, z_l]
  have h : (cutS w none (some 6)).cps.toList = w.cps.toList.take 6 := by
    have e1 : HT.sIx w.length 0 none = 0 := rfl
    have e2 : HT.sIx w.length w.length (some 6) = min 6 w.length := by
      simp [HT.sIx]
    show ((w.cps.toList.drop (HT.sIx w.length 0 none)).take (HT.sIx w.length w.length (some 6) - HT.sIx w.length 0 none)).toArray.toList = _
    rw [e1, e2]
    simp only [List.drop_zero, Nat.sub_zero]
    rw [← len_toList w]
    by_cases hl : 6 ≤ w.cps.toList.length
    · rw [Nat.min_eq_left hl]
    · rw [Nat.min_eq_right (by omega), List.take_of_length_le (Nat.le_refl _), List.take_of_length_le (by omega)]
  rw [h]
  simp
theorem cand_inj {w : Str} {c c' : Nat} (h : cand w c = cand w c') : c = c' := by
  have e : (cand w c).cps.toList = (cand w c').cps.toList := by rw [h]
  rw [cand_l, cand_l] at e
  have e2 := List.append_cancel_left e
  simpa using e2
theorem cand_name {w : Str} {c : Nat} (h : nameB w = true) (hc : isLow c = true) : nameB (cand w c) = true := by
  unfold nameB at h ⊢
  rw [Bool.and_eq_true] at h ⊢
  obtain ⟨h1, h2⟩ := h
  have el := len_toList (cand w c)
  rw [cand_l] at el ⊢
  refine ⟨?_, ?_⟩
  · rw [decide_eq_true_iff, ← el]
    simp
    omega
  · rw [List.all_append, Bool.and_eq_true]
    refine ⟨?_, ?_⟩
    · rw [List.all_eq_true] at h2 ⊢
      exact fun x hx => h2 x (List.mem_of_mem_take hx)
    · show (isLow 122 && (isLow c && true)) = true
      rw [hc]
      rfl
/-- of more than there are in the list, unlike ones, one is not in it -/
theorem out_of {α : Type} [DecidableEq α] : ∀ (l m : List α), l.Nodup → (∀ x ∈ l, x ∈ m) → l.length ≤ m.length
  | [], m, _, _ => Nat.zero_le _
  | a :: l, m, hn, hs => by
    rw [List.nodup_cons] at hn
    have ha : a ∈ m := hs a List.mem_cons_self
    have ih := out_of l (m.erase a) hn.2 fun x hx => by
      have hx' := hs x (List.mem_cons_of_mem _ hx)
      have hne : x ≠ a := fun e => hn.1 (e ▸ hx)
      exact (List.mem_erase_of_ne hne).mpr hx'
    rw [List.length_erase_of_mem ha] at ih
    have hp : 0 < m.length := List.length_pos_of_mem ha
    show l.length + 1 ≤ m.length
    omega
theorem nodup_map_inj {α β : Type} {f : α → β} (hf : ∀ a b, f a = f b → a = b) : ∀ {l : List α}, l.Nodup → (l.map f).Nodup
  | [], _ => List.nodup_nil
  | a :: l, h => by
    rw [List.nodup_cons] at h
    rw [List.map_cons, List.nodup_cons]
    refine ⟨fun hm => ?_, nodup_map_inj hf h.2⟩
    obtain ⟨b, hb, e⟩ := List.mem_map.mp hm
    exact h.1 (hf _ _ e ▸ hb)
theorem abc_nodup : abc.cps.toList.Nodup := by decide +kernel
theorem fresh (w : Str) (ws : List Str) (h : ws.length < 26) : ∃ r rest, ((abc.cps.toList.map (cand w)).filter fun x => decide (x ∉ ws)) = r :: rest := by
  cases e : ((abc.cps.toList.map (cand w)).filter fun x => decide (x ∉ ws)) with
  | cons r rest => exact ⟨r, rest, rfl⟩
  | nil =>
    rw [List.filter_eq_nil_iff] at e
    have := out_of (abc.cps.toList.map (cand w)) ws (nodup_map_inj (fun a b => cand_inj) abc_nodup) fun x hx => by
      have := e x hx
      simpa using this
    rw [List.length_map, len_toList, abc_len] at this
    omega
theorem inV_str (x : Str) : ∀ ws : List Str, inV (.str x) (ws.map V.str) = decide (x ∈ ws)
  | [] => by simp [inV]
  | y :: r => by
    have ih := inV_str x r
    unfold inV at ih ⊢
    rw [List.map_cons, List.any_cons, ih]
    have e : eqV (.str y) (.str x) = decide (y = x) := by
      show (y == x) = decide (y = x)
      rw [Bool.beq_eq_decide_eq]
    rw [e]
    by_cases h : y = x
    · simp [h]
    · simp [h, Ne.symm h]
theorem flat_strs (ws : List Str) : (ws.map V.str).all flatV = true := by
  induction ws with
  | nil => rfl
  | cons a r ih => simpa [flatV] using ih
/-- signs put together -/
theorem join_l : ∀ cs : List Nat, (Txt.join (Str.ofString "") (cs.map fun c => (⟨#[c]⟩ : Str))).cps.toList = cs := fun cs => by
  rw [show Txt.join (Str.ofString "") (cs.map fun c => (⟨#[c]⟩ : Str)) = Str.join (Str.ofString "") (cs.map fun c => (⟨#[c]⟩ : Str)) from PySem.StrLaws.glued_eq_join _ _]
  have e0 : (Str.ofString "").cps.toList = [] := by decide +kernel
  induction cs with
  | nil => rfl
  | cons c r ih =>
    cases r with
    | nil => rfl
    | cons c2 r2 =>
      show ((⟨#[c]⟩ : Str) ++ Str.ofString "" ++ Str.join (Str.ofString "") ((c2 :: r2).map fun c => (⟨#[c]⟩ : Str))).cps.toList = c :: c2 :: r2
      rw [app_l, app_l, e0, ih]
      rfl
end K1
set_option Elab.async false
set_option linter.all false
set_option maxRecDepth 100000
set_option maxHeartbeats 4000000
namespace K1
open PySem PySem.Spec PyProof.Rows L2
/-! ### a def by its name, with its promise -/
structure Df (P : Program) (w : World) (K : PySem.W.Frag) (mg : Str → Option Value) (base : Heap) (CX : CXT) (x : Str) (k : Nat) (ps : List Str) (sp : Sp) : Prop where
  ex : ∃ (f : Addr) (fd : FuncData), FnOk P w K mg base CX k f fd ps sp ∧ mg x = some (.ref f) ∧ PySem.W.keepIn K (.ref f) = true ∧ Binds K fd ps []
theorem pe_df {X : Cx} {CX : CXT} {x : Str} {k j : Nat} {ps : List Str} {sp : Sp} {E : XK} {e : Expr} {es : List Expr} {t : TA} {p pos : Pos} (D : Df X.prog X.w X.K X.mg X.base CX x k ps sp) (hr : Room j X.A) (hx : Passes CX X E) (ha : PA X (e :: es) t)
    (hk : k ≤ j := by decide) (hg : Gl X x := by rfl) (hdb : (x == ("__debug__" : Str)) = false := by decide) (he : starEach (e :: es) X.env = (false, eval e X.env) :: starEach es X.env := by rfl) (hpl : (backTo pos (starEach es X.env)).any (·.1) = false := by rfl) :
    PE X (.Call (.Name x p) (e :: es) [] pos) (tCall sp [] E t) := by
  obtain ⟨f, fd, F, hm, kp, hb⟩ := D.ex
  exact pe_call F (hr.mono hk) hg hm kp hb .nil hx ha hdb he hpl
abbrev sPick' : Stmt := topS 25
abbrev sWords : Stmt := topS 26
structure Bt (mg : Str → Option Value) : Prop where
  list : mg "list" = none
  len : mg "len" = none
  range : mg "range" = none
def spPick : Sp := fun vs H Q _ => ∃ (d g c l : Addr) (t : Nat) (xs : List V), vs = [.ref d, .ref l] ∧ Gen d g c t H ∧ t < 2 ^ 30 ∧ H l = some (.lst xs) ∧ l ≠ g ∧ xs ≠ [] ∧ xs.length < 2 ^ 50 ∧
  ∀ (v : V) (H' : Hp), v ∈ xs → Gen d g c (t + 1) H' → Kp d g H H' → Q v H'
section
variable {P : Program} {w : World} {K : PySem.W.Frag} {mg : Str → Option Value} {base : Heap}
theorem scPick : FnScope ["_law_state", "_law_picks"] ["_law_state", "_law_picks"] (defScope sPick') := ⟨rfl, rfl, rfl, by decide +kernel, rfl, by decide +kernel, by decide +kernel⟩
theorem at_nat {xs : List V} {v : Int} (h0 : 0 ≤ v) (h1 : v < xs.length) : ∃ x, atI xs v = some x ∧ x ∈ xs := by
  obtain ⟨n, rfl⟩ := Int.eq_ofNat_of_zero_le h0
  have hn : n < xs.length := by omega
  exact ⟨xs[n], atI_nat (List.getElem?_eq_getElem hn), List.getElem_mem hn⟩
theorem ok_pick {f : Addr} {fd : FuncData} (F : Fun K "_law_pick" "_law_pick" sPick' f fd) (DT : Df P w K mg base CX0 "_law_take" 2 ["_law_state", "_law_size"] spTake) (T : Bt mg) : FnOk P w K mg base CX0 3 f fd ["_law_state", "_law_picks"] spPick := by
  refine F.ok scPick (fun vs H Q E h => ?_) (fun cdv A outer s H vs Q E hr h => ?_)
  · obtain ⟨d, g, c, l, t, xs, rfl, _⟩ := h
    rfl
  · obtain ⟨d, g, c, l, t, xs, rfl, G, ht, hl, hlg, hne, hlen, k⟩ := h
    refine ⟨_, pss_one (ps_ret (pe_ix ix_list (pv 1) (pe_df DT hr pass0 (pa_cons (pv 0) (pa_cons (pe_callB call_len_seq (by rfl) T.len PySem.boot_len (pa_cons (pv 1) pa_nil)) pa_nil))) (fun _ _ => rfl))), ?_⟩
    have hpos : 0 < xs.length := List.length_pos_iff.mpr hne
    have hld : l ≠ d := by
      obtain ⟨_, _, _, _, _, e1, _⟩ := G
      exact ne_of hl e1 (by intro z; cases z)
    refine ⟨_, rfl, _, rfl, _, rfl, l, xs, rfl, .inl (SqL.of hl), d, g, c, t, (xs.length : Int), rfl, G, ht, by omega, by omega, fun v H' v0 v1 G' k' => ?_⟩
    obtain ⟨x, hx, hm⟩ := at_nat (xs := xs) v0 v1
    exact ⟨l, xs, v, x, rfl, rfl, SqL.of (k' l _ hld hlg hl), hx, k x H' hm G' k'⟩
abbrev nWords : List Str := ["_law_state", "_law_size", "_law_own", "_law_letters", "_law_found", "_law_k", "_law_word", "_law_long", "_law_j", "_law_more", "_law_letter", "_law_item"]
theorem scWords : FnScope nWords ["_law_state", "_law_size"] (defScope sWords) := ⟨rfl, rfl, rfl, by decide +kernel, rfl, by decide +kernel, by decide +kernel⟩
def spWords : Sp := fun vs H Q _ => ∃ (d g c : Addr) (t : Nat) (n : Nat), vs = [.ref d, .int n] ∧ Gen d g c t H ∧ n ≤ 25 ∧ t + 11 * n < 2 ^ 30 ∧
  ∀ (l : Addr) (ws : List Str) (H' : Hp), ws.length = n → ws.Nodup → (∀ w ∈ ws, nameB w = true) → H' l = some (.lst (ws.map V.str)) → H l = none → Gen d g c (t + 11 * n) H' → Kp d g H H' → Q (.ref l) H'
/-- the loop's state: v6 the word, ws the words found -/
def WS (d g c o F : Addr) (H0 : Hp) (n : Int) (ws : List Str) (tt : Nat) (v6 : Option V) (σ : L2.St) (H' : Hp) : Prop :=
  ∃ v5 v7 v8 v9 v10 v11 : Option V, σ = [some (.ref d), some (.int n), some (.ref o), some (.str abc), some (.ref F), v5, v6, v7, v8, v9, v10, v11] ∧ H' o = some (.lst (ownW.map V.str)) ∧ H' F = some (.lst (ws.map V.str)) ∧ Gen d g c tt H' ∧ Kp d g H0 H'
abbrev mk1 (c : Nat) : Str := ⟨#[c]⟩
theorem updN {H : Hp} {a b : Addr} {o : HO} (h : upd H a o b = none) : b ≠ a ∧ H b = none := by
  by_cases e : b = a
  · rw [e, upd_same] at h
    cases h
  · rw [upd_ne e] at h
    exact ⟨e, h⟩
theorem Gen.nd {d g c : Addr} {t : Nat} {H : Hp} (G : Gen d g c t H) {p : Addr} (h : H p = none) : p ≠ d ∧ p ≠ g := by
  obtain ⟨_, _, _, _, _, e1, e2, _⟩ := G
  exact ⟨(fun z => by rw [z, e1] at h; cases h), (fun z => by rw [z, e2] at h; cases h)⟩
theorem at_code {w : Str} {v : Int} (h0 : 0 ≤ v) (h1 : v < w.length) : ∃ x, atI w.cps.toList v = some x ∧ x ∈ w.cps.toList := by
  obtain ⟨n, rfl⟩ := Int.eq_ofNat_of_zero_le h0
  have hn : n < w.cps.toList.length := by rw [len_toList]; omega
  exact ⟨w.cps.toList[n], atI_nat (List.getElem?_eq_getElem hn), List.getElem_mem hn⟩
theorem Gen.nc {d g c : Addr} {t : Nat} {H : Hp} (G : Gen d g c t H) {p : Addr} (h : H p = none) : p ≠ c := by
  obtain ⟨_, _, _, _, _, _, _, e3, _⟩ := G
  exact fun z => by rw [z, e3] at h; cases h
theorem Gen.off {d g c p : Addr} {o : HO} {t : Nat} {H : Hp} (G : Gen d g c t H) (hd : p ≠ d) (hg : p ≠ g) (hc : p ≠ c) : Gen d g c t (upd H p o) := by
  obtain ⟨n, gs, cs, r, u, e1, e2, e3, e4⟩ := G
  exact ⟨n, gs, cs, r, u, by rw [upd_ne hd.symm]; exact e1, by rw [upd_ne hg.symm]; exact e2, by rw [upd_ne hc.symm]; exact e3, e4⟩
theorem sum_one : ∀ cs : List Nat, ((cs.map mk1).map (·.length)).sum = cs.length
  | [] => rfl
  | c :: r => by
    have ih := sum_one r
    rw [List.map_cons, List.map_cons, List.sum_cons, ih]
    show 1 + r.length = r.length + 1
    omega
theorem take_snoc {α : Type} : ∀ {l : List α} {i : Nat} {x : α}, l[i]? = some x → l.take (i + 1) = l.take i ++ [x]
  | [], i, x, h => by simp at h
  | a :: l, 0, x, h => by
    have e : a = x := by simpa using h
    rw [e]
    rfl
  | a :: l, i + 1, x, h => by
    have ih := take_snoc (l := l) (i := i) (x := x) (by simpa using h)
    rw [List.take_succ_cons, ih, List.take_succ_cons]
    rfl
theorem app_len (a b : Str) : (a ++ b).length = a.length + b.length := by
  rw [← len_toList, ← len_toList, ← len_toList, app_l, List.length_append]
theorem cutS_le (w : Str) : (cutS w none (some 6)).length ≤ w.length := by
  have h := cand_l w 0
  have h2 := congrArg List.length h
  rw [len_toList] at h2
  unfold cand at h2
  rw [app_len, app_len] at h2
  have e1 : (Str.ofString "z").length = 1 := by decide +kernel
  have e2 : (⟨#[0]⟩ : Str).length = 1 := rfl
  rw [e1, e2] at h2
  rw [List.length_append, List.length_take, len_toList] at h2
  simp only [List.length_cons, List.length_nil] at h2
  omega
theorem name_len {w : Str} (h : nameB w = true) : 1 ≤ w.length ∧ w.length ≤ 8 := by
  unfold nameB at h
  rw [Bool.and_eq_true, decide_eq_true_iff] at h
  exact h.1
theorem get_map {α β : Type} {f : α → β} {l : List α} {x : β} (h : x ∈ l.map f) : ∃ y, y ∈ l ∧ x = f y := by
  obtain ⟨y, h1, h2⟩ := List.mem_map.mp h
  exact ⟨y, h1, h2.symm⟩
theorem ok_words {f : Addr} {fd : FuncData} (F : Fun K "_law_words" "_law_words" sWords f fd) (DT : Df P w K mg base CX0 "_law_take" 2 ["_law_state", "_law_size"] spTake) (T : Bt mg) : FnOk P w K mg base CX0 3 f fd ["_law_state", "_law_size"] spWords := by
  refine F.ok scWords (fun vs H Q E h => ?_) (fun cdv A outer s H vs Q E hr h => ?_)
  · obtain ⟨d, g, c, t, n, rfl, _⟩ := h
    rfl
  · obtain ⟨d, g, c, t, n, rfl, G, hn, ht, k⟩ := h
    refine ⟨_, pss_cons (ps_set (i := 2) scWords.nd rfl (Or.inl rfl) pe_str)
      (pss_cons (ps_set (i := 2) scWords.nd rfl (Or.inl rfl) (pe_split (pe_op op_add_str (pv 2) pe_str) pe_str))
      (pss_cons (ps_asg (pe_tup (pa_cons pe_str (pa_cons (pe_lst pa_nil) pa_nil))) (pg_tup rfl (pgs_cons (pg_name (i := 3) scWords.nd rfl (Or.inr rfl)) (pgs_cons (pg_name (i := 4) scWords.nd rfl (Or.inr rfl)) pgs_nil))))
      (pss_cons (ps_for PassesOwn.never rfl (pi_range1 rfl T.range (pa_cons (pv 1) pa_nil)) (pg_name (i := 5) scWords.nd rfl (Or.inl rfl))
        (pss_cons (ps_set (i := 6) scWords.nd rfl (Or.inr rfl) (pe_ix ix_list (pv 2) (pe_df DT hr pass0 (pa_cons (pv 0) (pa_cons (pe_callB call_len_seq (by rfl) T.len PySem.boot_len (pa_cons (pv 2) pa_nil)) pa_nil))) (fun _ _ => rfl)))
        (C8.pss_cut (ps_if (pt_cmpR op_gt (pe_df DT hr pass0 (pa_cons (pv 0) (pa_cons pe_int pa_nil))) pe_int (nomark _))
          (pss_cons (ps_set (i := 7) scWords.nd rfl (Or.inl rfl) (pe_ix ix_list (pe_lst (pa_cons pe_int (pa_cons pe_int (pa_cons pe_int (pa_cons pe_int pa_nil))))) (pe_df DT hr pass0 (pa_cons (pv 0) (pa_cons pe_int pa_nil))) (fun _ _ => rfl)))
          (pss_one (ps_set (i := 6) scWords.nd rfl (Or.inr rfl) (pe_join pe_str
            (pe_lc (own := [("_law_j", 8)]) (g := gName 8) (tt := tYes) rfl scWords.nd (pi_range1 rfl T.range (pa_cons (pv 7) pa_nil)) (blkOk_by (N := nWords) (sc := defScope sWords) (by decide +kernel)) (fun _ _ _ _ _ => pg_name (i := 8) scWords.nd rfl (Or.inl rfl)) (fun _ _ _ _ _ => pts_nil)
              (fun _ _ _ _ _ => pe_ix ix_str (pv 3) (pe_df DT hr pass0 (pa_cons (pv 0) (pa_cons pe_int pa_nil))) (fun _ _ => rfl)))))))
          pss_nil)
        (C8.pss_cut (ps_if (pt_cmpR op_in_seq (pv 6) (pv 4) (by rfl))
          (pss_cons (ps_setLc (i := 9) (own := [("_law_letter", 10)]) (g := gName 10) (tt := tYes) rfl scWords.nd rfl rfl (sw_true rfl rfl rfl (by decide +kernel)) (pi_str (pv 3)) (blkOk_by (N := nWords) (sc := defScope sWords) (by decide +kernel)) (fun _ _ _ _ _ => pg_name (i := 10) scWords.nd rfl (Or.inl rfl)) (fun _ _ _ _ _ => pts_nil)
              (fun _ _ _ _ _ => pe_op op_add_str (pe_op op_add_str (pe_slice sl_str (pv 6) po_none (po_some pe_int)) pe_str) (pv 10)))
          (pss_one (ps_set (i := 6) scWords.nd rfl (Or.inr rfl) (pe_ix ix_list (pe_lc (own := [("_law_item", 11)]) (g := gName 11) (tt := tTest (tOp (rIn K true) (tVar 11) (tVar 4))) rfl scWords.nd (pi_list (pv 9)) (blkOk_by (N := nWords) (sc := defScope sWords) (by decide +kernel)) (fun _ _ _ _ _ => pg_name (i := 11) scWords.nd rfl (Or.inl rfl)) (fun _ _ _ _ _ => pts_one (pt_cmpR op_notIn_seq (pv 11) (pv 4) (by rfl)))
              (fun _ _ _ _ _ => pv 11)) pe_int (fun _ _ => rfl)))))
          pss_nil)
        (pss_one (ps_expr (pe_bm PySem.F.plainAttrs_list PySem.F.slot_list_append PySem.F.type_list_append mt_append (pv 4) (pa_cons (pv 6) pa_nil))))))))
      (pss_one (ps_ret (pv 4)))))), ?_⟩
    refine ⟨_, rfl, _, _, rfl, rfl, (by decide +kernel), ⟨_, rfl⟩, _, _, rfl, rfl, (by decide +kernel), (by decide +kernel), fun o ho => ?_⟩
    refine ⟨(by show 0 ≤ sizeLine; decide), fun F hF => ⟨(by show 2 ≤ sizeLine; decide), fun q hq => ⟨q, _, rfl, SqT.of upd_same, rfl, _, _, rfl, _, _, rfl, rfl, ?_⟩⟩⟩
    obtain ⟨nFo, hF'⟩ := updN hF
    obtain ⟨od, og⟩ := G.nd ho
    obtain ⟨Fd, Fg⟩ := G.nd hF'
    have sB : Same H (upd (upd (upd H o (.lst (ownW.map V.str))) F (.lst [])) q (.tup [.str abc, .ref F])) := Same.new (Same.new (Same.new (Same.refl H) ho) hF) hq
    have eo : (upd (upd (upd H o (.lst (ownW.map V.str))) F (.lst [])) q (.tup [.str abc, .ref F])) o = some (.lst (ownW.map V.str)) := Same.new (Same.refl _) hq _ _ (by rw [upd_ne (Ne.symm nFo), upd_same]; rfl)
    have eF : (upd (upd (upd H o (.lst (ownW.map V.str))) F (.lst [])) q (.tup [.str abc, .ref F])) F = some (.lst (([] : List Str).map V.str)) := Same.new (Same.refl _) hq _ _ upd_same
    have ol := ownW_len
    refine ⟨_, rfl, n, rfl, by omega, by omega, for_range (lo := 0) (n := n) (fun i σ H' => ∃ ws : List Str, ws.length = i ∧ ws.Nodup ∧ (∀ w ∈ ws, nameB w = true) ∧ ∃ v6, WS d g c o F H n ws (t + 11 * i) v6 σ H')
      ⟨[], rfl, List.nodup_nil, (fun _ z => absurd z (by simp)), none, none, none, none, none, none, none, rfl, eo, eF, G.same sB, Kp.of sB⟩ ?_ ?_⟩
    · rintro i σ H' hi ⟨ws, lw, nw, aw, v6, v5, v7, v8, v9, v10, v11, rfl, e1, e2, G1, k1⟩
      -- the word is one of its own
      refine ⟨_, rfl, _, rfl, _, rfl, o, _, rfl, .inl (SqL.of e1), d, g, c, _, (((ownW.map V.str).length : Nat) : Int), rfl, G1, by omega, by rw [List.length_map]; omega, by rw [List.length_map]; omega, fun v H2 v0 v1 G2 k2 => ?_⟩
      obtain ⟨x, hx, hm⟩ := at_nat (xs := ownW.map V.str) v0 v1
      obtain ⟨w0, hw0, rfl⟩ := get_map hm
      refine ⟨o, _, v, _, rfl, rfl, SqL.of (k2 o _ od og e1), hx, ?_⟩
      -- .. or one of signs
      refine ⟨fun σ' H' => ∃ w1, nameB w1 = true ∧ WS d g c o F H n ws (t + 11 * i + 11) (some (.str w1)) σ' H', ?_, ?_⟩
      · refine ⟨_, rfl, d, g, c, _, 3, rfl, G2, by omega, by decide, by decide, fun u H3 u0 u1 G3 k3 => ⟨_, _, rfl, rfl, _, rfl, ?_⟩⟩
        have e13 := k3 o _ od og (k2 o _ od og e1)
        have e23 := k3 F _ Fd Fg (k2 F _ Fd Fg e2)
        have k13 := (k1.trans k2).trans k3
        refine ite2 (fun _ => ?_) (fun _ => ?_)
        · refine ⟨(by show 4 ≤ sizeLine; decide), fun p hp => ⟨_, rfl, d, g, c, _, 4, rfl, G3.new hp, by omega, by decide, by decide, fun u2 H4 u20 u21 G4 k4 => ?_⟩⟩
          obtain ⟨pd, pg⟩ := G3.nd hp
          have s3 := Same.new (o := .lst [.int 1, .int 2, .int 8, .int 3]) (Same.refl H3) hp
          obtain ⟨y, hy, my⟩ := at_nat (xs := [V.int 1, .int 2, .int 8, .int 3]) u20 u21
          obtain ⟨lg, hlg, rfl⟩ : ∃ lg : Nat, (1 ≤ lg ∧ lg ≤ 8) ∧ y = .int lg := by
            simp only [List.mem_cons, List.not_mem_nil, or_false] at my
            rcases my with rfl | rfl | rfl | rfl
            · exact ⟨1, by decide, rfl⟩
            · exact ⟨2, by decide, rfl⟩
            · exact ⟨8, by decide, rfl⟩
            · exact ⟨3, by decide, rfl⟩
          have e14 := k4 o _ od og (s3 _ _ e13)
          have e24 := k4 F _ Fd Fg (s3 _ _ e23)
          have k14 := (k13.trans (Kp.of s3)).trans k4
          refine ⟨p, _, u2, _, rfl, rfl, SqL.of (k4 p _ pd pg upd_same), hy, ⟨_, rfl⟩, _, rfl, lg, rfl, by omega, by omega, fun D hD => lc_range (lo := 0) (n := lg) (fun i5 H5 => ∃ cs : List Nat, cs.length = i5 ∧ (∀ c ∈ cs, isLow c = true) ∧ H5 D = some (.lst ((cs.map mk1).map V.str)) ∧
              H5 o = some (.lst (ownW.map V.str)) ∧ H5 F = some (.lst (ws.map V.str)) ∧ Gen d g c (t + 11 * i + 3 + i5) H5 ∧ Kp d g H H5) ?_ ?_ ?_⟩
          · have s4 := Same.new (o := .lst []) (Same.refl H4) hD
            exact ⟨[], rfl, (fun _ z => absurd z (by simp)), upd_same, s4 _ _ e14, s4 _ _ e24, G4.same s4, k14.trans (Kp.of s4)⟩
          · rintro i5 H5 hi5 ⟨cs, lc, ac, eD, e15, e25, G5, k5⟩
            obtain ⟨nDo, hD'⟩ : D ≠ o ∧ D ≠ F := ⟨(fun z => by rw [z, e14] at hD; cases hD), (fun z => by rw [z, e24] at hD; cases hD)⟩
            obtain ⟨Dd, Dg⟩ := G4.nd hD
            refine ⟨rfl, _, rfl, _, rfl, d, g, c, _, 26, rfl, G5, by omega, by decide, by decide, fun u6 H6 u60 u61 G6 k6 => ?_⟩
            obtain ⟨ch, hch, mch⟩ := at_code (w := abc) u60 (by rw [abc_len]; exact u61)
            refine ⟨abc, u6, ch, rfl, rfl, (by decide +kernel), hch, _, k6 D _ Dd Dg eD, ?_, cs ++ [ch], ?_, ?_, ?_, ?_, ?_, ?_, ?_⟩
            · rw [List.length_map, List.length_map, sizeLine_eq]
              omega
            · rw [List.length_append, lc]
              rfl
            · intro x hx
              rcases List.mem_append.mp hx with h | h
              · exact ac x h
              · rw [List.mem_singleton.mp h]
                exact abc_low ch mch
            · rw [upd_same, List.map_append, List.map_append]
              rfl
            · rw [upd_ne (Ne.symm nDo)]
              exact k6 o _ od og e15
            · rw [upd_ne (Ne.symm hD')]
              exact k6 F _ Fd Fg e25
            · exact (G6.off Dd Dg (G4.nc hD)).mono (by omega)
            · exact (k5.trans k6).upd (.inl (G.free G4 k14 hD))
          · rintro H5 ⟨cs, lc, ac, eD, e15, e25, G5, k5⟩
            refine ⟨_, D, cs.map mk1, rfl, rfl, .inl (SqL.of eD), ?_, Txt.join (Str.ofString "") (cs.map mk1), ?_, _, _, _, _, _, _, rfl, e15, e25, G5.mono (by omega), k5⟩
            · rw [sum_one, List.length_map, show (Str.ofString "").length = 0 by decide +kernel]
              omega
            · unfold nameB
              have e := join_l cs
              have el := len_toList (Txt.join (Str.ofString "") (cs.map mk1))
              rw [e] at el ⊢
              rw [Bool.and_eq_true, decide_eq_true_iff, List.all_eq_true, ← el]
              exact ⟨by omega, ac⟩
        · exact ⟨w0, ownW_ok w0 hw0, _, _, _, _, _, _, rfl, e13, e23, G3.mono (by omega), k13⟩
      · rintro σ' H5 ⟨w1, hw1, b5, b7, b8, b9, b10, b11, rfl, e15, e25, G5, k5⟩
        refine ⟨fun σ' H' => ∃ w2, nameB w2 = true ∧ w2 ∉ ws ∧ WS d g c o F H n ws (t + 11 * i + 11) (some (.str w2)) σ' H', ?_, ?_⟩
        · refine ⟨_, rfl, _, rfl, F, _, rfl, .inl (SqL.of e25), rfl, flat_strs ws, _, rfl, ?_⟩
          refine ite2 (fun hb => ?_) (fun hb => ?_)
          · refine ⟨_, rfl, abc, rfl, fun D hD => lc_it walk_str (fun i6 H6 => Same H5 H6 ∧ H6 D = some (.lst (((abc.cps.toList.take i6).map (cand w1)).map V.str))) ⟨Same.new (Same.refl H5) hD, upd_same⟩ (fun _ _ _ _ => trivial) ?_ ?_⟩
            · rintro i6 x H6 H7 hi6 ⟨s6, eD⟩ ⟨rfl, ch, hch, rfl⟩
              have hch' : abc.cps.toList[i6]? = some ch := by rw [Array.getElem?_toList]; exact hch
              have hlen : i6 < 26 := by
                have := (List.getElem?_eq_some_iff.mp hch').1
                rw [len_toList, abc_len] at this
                exact this
              have nl := name_len hw1
              have hc1 : (cutS w1 none (some 6)).length ≤ 8 := by
                have := cutS_le w1
                omega
              have hcl : (cutS w1 none (some 6) ++ Str.ofString "z").length ≤ 9 := by
                rw [app_len, show (Str.ofString "z").length = 1 by decide +kernel]
                omega
              refine ⟨rfl, _, rfl, 6, rfl, w1, rfl, (by rw [sizeLine_eq]; omega), _, _, rfl, rfl, (by rw [sizeLine_eq, show (Str.ofString "z").length = 1 by decide +kernel]; omega), _, rfl, _, _, rfl, rfl, (by rw [sizeLine_eq, show (⟨#[ch]⟩ : Str).length = 1 from rfl]; omega), _, eD, ?_, ?_, ?_⟩
              · rw [List.length_map, List.length_map, List.length_take, sizeLine_eq]
                omega
              · exact fun b o e => by
                  rw [upd_ne (ne_of_none e hD)]
                  exact s6 b o e
              · rw [upd_same, take_snoc hch', List.map_append, List.map_append]
                rfl
            · rintro H6 ⟨s6, eD⟩
              rw [show abc.cps.size = abc.cps.toList.length from rfl, List.take_length] at eD
              refine ⟨_, rfl, D, rfl, ⟨_, SqL.of eD⟩, fun D2 hD2 => lc_list (K := K) (a := D) (xs := (abc.cps.toList.map (cand w1)).map V.str) (fun i7 H7 => Same H6 H7 ∧ H7 D2 = some (.lst ((((abc.cps.toList.map (cand w1)).take i7).filter fun x => decide (x ∉ ws)).map V.str)))
                ⟨Same.new (Same.refl H6) hD2, upd_same⟩ (fun i H7 _ z => SqL.of (z.1 _ _ eD)) ?_ ?_⟩
              · rintro i7 x H7 hi7 ⟨s7, eD2⟩
                rw [List.getElem?_map] at hi7
                obtain ⟨cw, hcw, rfl⟩ : ∃ cw, (abc.cps.toList.map (cand w1))[i7]? = some cw ∧ x = .str cw := by
                  cases e : (abc.cps.toList.map (cand w1))[i7]? with
                  | none => rw [e] at hi7; cases hi7
                  | some z => rw [e] at hi7; exact ⟨z, rfl, (Option.some.inj hi7).symm⟩
                have hl7 : i7 < 26 := by
                  have := (List.getElem?_eq_some_iff.mp hcw).1
                  rw [List.length_map, len_toList, abc_len] at this
                  exact this
                refine ⟨rfl, _, rfl, _, rfl, F, _, rfl, .inl (SqL.of (s7 _ _ (s6 _ _ e25))), rfl, flat_strs ws, _, rfl, ?_⟩
                refine ite2 (fun hb2 => ?_) (fun hb2 => ?_)
                · have hb3 : cw ∉ ws := by
                    have h2 : (!inV (.str cw) (ws.map V.str)) = true := hb2
                    rw [inV_str] at h2
                    simpa using h2
                  refine ⟨_, rfl, _, eD2, ?_, ?_, ?_⟩
                  · rw [List.length_map, sizeLine_eq]
                    have := List.length_filter_le (fun x => decide (x ∉ ws)) ((abc.cps.toList.map (cand w1)).take i7)
                    rw [List.length_take] at this
                    omega
                  · exact fun b o e => by
                      rw [upd_ne (ne_of_none e hD2)]
                      exact s7 b o e
                  · rw [upd_same, take_snoc hcw, List.filter_append, List.map_append]
                    simp [hb3]
                · have hb3 : cw ∈ ws := by
                    have h2 : ¬ (!inV (.str cw) (ws.map V.str)) = true := hb2
                    rw [inV_str] at h2
                    simpa using h2
                  refine ⟨s7, ?_⟩
                  rw [eD2, take_snoc hcw, List.filter_append]
                  simp [hb3]
              · rintro H7 ⟨s7, eD2⟩
                rw [List.length_map, List.take_length] at eD2
                obtain ⟨r, rest, hr⟩ := fresh w1 ws (by omega)
                have hin : r ∈ ((abc.cps.toList.map (cand w1)).filter fun x => decide (x ∉ ws)) := by
                  rw [hr]
                  exact List.mem_cons_self
                rw [List.mem_filter] at hin
                obtain ⟨h1, h2⟩ := hin
                obtain ⟨ch, hch, rfl⟩ := List.mem_map.mp h1
                rw [hr] at eD2
                have s67 : Same H5 H7 := s6.trans s7
                refine ⟨D2, _, 0, _, rfl, rfl, SqL.of eD2, atI_nat (j := 0) rfl, cand w1 ch, cand_name hw1 (abc_low ch hch), by simpa using h2, _, _, _, _, _, _, rfl, s67 _ _ e15, s67 _ _ e25, G5.same s67, k5.trans (Kp.of s67)⟩
          · refine ⟨w1, hw1, ?_, _, _, _, _, _, _, rfl, e15, e25, G5, k5⟩
            have h2 : ¬ (inV (.str w1) (ws.map V.str)) = true := hb
            rw [inV_str] at h2
            simpa using h2
        · rintro σ' H6 ⟨w2, hw2, nin, c5, c7, c8, c9, c10, c11, rfl, e16, e26, G6, k6⟩
          obtain ⟨Gd, Gg⟩ := G.nd hF'
          refine ⟨_, rfl, .inl ⟨rfl, _, SqL.of e26⟩, _, rfl, F, _, _, rfl, rfl, e26, (by rw [List.length_map, sizeLine_eq]; omega), ws ++ [w2], ?_, ?_, ?_, _, _, _, _, _, _, _, rfl, ?_, ?_, ?_, ?_⟩
          · rw [List.length_append, lw]
            rfl
          · rw [List.nodup_append]
            refine ⟨nw, by simp, fun a ha b hb => ?_⟩
            rw [List.mem_singleton.mp hb]
            exact fun e => nin (e ▸ ha)
          · intro x hx
            rcases List.mem_append.mp hx with h | h
            · exact aw x h
            · rw [List.mem_singleton.mp h]
              exact hw2
          · rw [upd_ne (Ne.symm nFo)]
            exact e16
          · rw [upd_same, List.map_append]
            rfl
          · exact (G6.off Fd Fg (G.nc hF')).mono (by omega)
          · exact k6.upd (.inl hF')
    · rintro σ H' ⟨ws, lw, nw, aw, v6, v5, v7, v8, v9, v10, v11, rfl, e1, e2, G1, k1⟩
      exact ⟨_, rfl, k F ws H' lw nw aw e2 hF' G1 k1⟩
end
end K1
set_option Elab.async false
set_option linter.all false
set_option maxRecDepth 100000
set_option maxHeartbeats 4000000
namespace K1
open PySem PySem.Spec PyProof.Rows L2
/-! ### data that stands in the heap -/
mutual
theorem dp_same {K : PySem.W.Frag} {H H' : Hp} (s : Same H H') : ∀ (d : PyData) (v : V), Dp K H v d → Dp K H' v d
  | .none, _, .non => .non
  | .bool _, _, .bl b => .bl b
  | .int _, _, .int i => .int i
  | .str _, _, .str x => .str x
  | .list ds, _, .lst h a => .lst (s.seq h) (dp_sameAll s ds _ a)
  | .tuple ds, _, .tup h a => .tup (by
      rcases h with (h | ⟨o, h⟩) | h
      · exact .inl (.inl (s _ _ h))
      · exact .inl (.inr ⟨o, s _ _ h⟩)
      · exact .inr h) (dp_sameAll s ds _ a)
theorem dp_sameAll {K : PySem.W.Frag} {H H' : Hp} (s : Same H H') : ∀ (ds : List PyData) (vs : List V), DpAll K H vs ds → DpAll K H' vs ds
  | [], _, .nil => .nil
  | d :: ds, _, .cons h t => .cons (dp_same s d _ h) (dp_sameAll s ds _ t)
end
theorem dpAll_len {K : PySem.W.Frag} {H : Hp} : ∀ {vs : List V} {ds : List PyData}, DpAll K H vs ds → vs.length = ds.length
  | _, _, .nil => rfl
  | _, _, .cons _ t => by rw [List.length_cons, List.length_cons, dpAll_len t]
theorem dpAll_at {K : PySem.W.Frag} {H : Hp} : ∀ {vs : List V} {ds : List PyData} {i : Nat} {v : V}, DpAll K H vs ds → vs[i]? = some v → ∃ d, ds[i]? = some d ∧ Dp K H v d
  | _, _, i, v, .nil, h => by simp at h
  | _, _, 0, v, .cons (d := d) h _, e => ⟨d, rfl, by
      have e' := Option.some.inj e
      rw [← e']
      exact h⟩
  | _, _, i + 1, v, .cons _ t, e => dpAll_at (i := i) t e
/-- data, or some dict at the top -/
inductive Dm (K : PySem.W.Frag) (H : Hp) : V → PyData → Prop where
  | dat {v : V} {d : PyData} (h : Dp K H v d) : Dm K H v d
  | dic {a : Addr} {kvs : List (Key × V)} (h : H a = some (.dK kvs)) : Dm K H (.ref a) (.dict [])
theorem Dm.same {K : PySem.W.Frag} {H H' : Hp} {v : V} {d : PyData} (s : Same H H') (h : Dm K H v d) : Dm K H' v d := by
  cases h with
  | dat h => exact .dat (dp_same s _ _ h)
  | dic h => exact .dic (s _ _ h)
def tyOf : PyData → String
  | .none => "NoneType" | .bool _ => "bool" | .int _ => "int" | .str _ => "str" | .list _ => "list" | .tuple _ => "tuple" | .dict _ => "dict"
theorem tyx_list {K : PySem.W.Frag} {H : Hp} {a : Addr} {xs : List V} (h : SqL K H a xs) : TyX K H (.ref a) (.type "list") := by
  rcases h with (h | ⟨o, h⟩) | ⟨o, its, n, h, hc, _⟩
  · exact .base (.lst h)
  · exact .base (.frz h)
  · exact .kList h hc
theorem tyx_tup {K : PySem.W.Frag} {H : Hp} {a : Addr} {xs : List V} (h : SqT K H a xs) : TyX K H (.ref a) (.type "tuple") := by
  rcases h with (h | ⟨o, h⟩) | ⟨o, its, n, h, hc, _⟩
  · exact .base (.tup h)
  · exact .fTuple h
  · exact .kTuple h hc
theorem tyx_of {K : PySem.W.Frag} {H : Hp} {v : V} {d : PyData} (h : Dm K H v d) : TyX K H v (.type (tyOf d)) := by
  cases h with
  | dat h =>
    cases h with
    | non => exact .base .non
    | bl b => exact .base (.bl b)
    | int i => exact .base (.int i)
    | str s => exact .base (.str s)
    | lst h _ => exact tyx_list h
    | tup h _ => exact tyx_tup h
  | dic h => exact .base (.dK h)
def isInt : PyData → Bool | .int _ => true | .bool _ => true | _ => false
def isBool : PyData → Bool | .bool _ => true | _ => false
def isStr : PyData → Bool | .str _ => true | _ => false
def isTup : PyData → Bool | .tuple _ => true | _ => false
def isLst : PyData → Bool | .list _ => true | _ => false
theorem kit_int {K : PySem.W.Frag} : ∀ d : PyData, PySem.W.kitOne K (.type (tyOf d)) (.type "int") = some (isInt d)
  | .none => kit_ty (a := "NoneType") (b := "int") (r := false) (by decide +kernel)
  | .bool _ => kit_ty (a := "bool") (b := "int") (r := true) (by decide +kernel)
  | .int _ => kit_ty (a := "int") (b := "int") (r := true) (by decide +kernel)
  | .str _ => kit_ty (a := "str") (b := "int") (r := false) (by decide +kernel)
  | .list _ => kit_ty (a := "list") (b := "int") (r := false) (by decide +kernel)
  | .tuple _ => kit_ty (a := "tuple") (b := "int") (r := false) (by decide +kernel)
  | .dict _ => kit_ty (a := "dict") (b := "int") (r := false) (by decide +kernel)
theorem kit_bool {K : PySem.W.Frag} : ∀ d : PyData, PySem.W.kitOne K (.type (tyOf d)) (.type "bool") = some (isBool d)
  | .none => kit_ty (a := "NoneType") (b := "bool") (r := false) (by decide +kernel)
  | .bool _ => kit_ty (a := "bool") (b := "bool") (r := true) (by decide +kernel)
  | .int _ => kit_ty (a := "int") (b := "bool") (r := false) (by decide +kernel)
  | .str _ => kit_ty (a := "str") (b := "bool") (r := false) (by decide +kernel)
  | .list _ => kit_ty (a := "list") (b := "bool") (r := false) (by decide +kernel)
  | .tuple _ => kit_ty (a := "tuple") (b := "bool") (r := false) (by decide +kernel)
  | .dict _ => kit_ty (a := "dict") (b := "bool") (r := false) (by decide +kernel)
theorem kit_str {K : PySem.W.Frag} : ∀ d : PyData, PySem.W.kitOne K (.type (tyOf d)) (.type "str") = some (isStr d)
  | .none => kit_ty (a := "NoneType") (b := "str") (r := false) (by decide +kernel)
  | .bool _ => kit_ty (a := "bool") (b := "str") (r := false) (by decide +kernel)
  | .int _ => kit_ty (a := "int") (b := "str") (r := false) (by decide +kernel)
  | .str _ => kit_ty (a := "str") (b := "str") (r := true) (by decide +kernel)
  | .list _ => kit_ty (a := "list") (b := "str") (r := false) (by decide +kernel)
  | .tuple _ => kit_ty (a := "tuple") (b := "str") (r := false) (by decide +kernel)
  | .dict _ => kit_ty (a := "dict") (b := "str") (r := false) (by decide +kernel)
theorem kit_tup {K : PySem.W.Frag} : ∀ d : PyData, PySem.W.kitOne K (.type (tyOf d)) (.type "tuple") = some (isTup d)
  | .none => kit_ty (a := "NoneType") (b := "tuple") (r := false) (by decide +kernel)
  | .bool _ => kit_ty (a := "bool") (b := "tuple") (r := false) (by decide +kernel)
  | .int _ => kit_ty (a := "int") (b := "tuple") (r := false) (by decide +kernel)
  | .str _ => kit_ty (a := "str") (b := "tuple") (r := false) (by decide +kernel)
  | .list _ => kit_ty (a := "list") (b := "tuple") (r := false) (by decide +kernel)
  | .tuple _ => kit_ty (a := "tuple") (b := "tuple") (r := true) (by decide +kernel)
  | .dict _ => kit_ty (a := "dict") (b := "tuple") (r := false) (by decide +kernel)
theorem kit_lst {K : PySem.W.Frag} : ∀ d : PyData, PySem.W.kitOne K (.type (tyOf d)) (.type "list") = some (isLst d)
  | .none => kit_ty (a := "NoneType") (b := "list") (r := false) (by decide +kernel)
  | .bool _ => kit_ty (a := "bool") (b := "list") (r := false) (by decide +kernel)
  | .int _ => kit_ty (a := "int") (b := "list") (r := false) (by decide +kernel)
  | .str _ => kit_ty (a := "str") (b := "list") (r := false) (by decide +kernel)
  | .list _ => kit_ty (a := "list") (b := "list") (r := true) (by decide +kernel)
  | .tuple _ => kit_ty (a := "tuple") (b := "list") (r := false) (by decide +kernel)
  | .dict _ => kit_ty (a := "dict") (b := "list") (r := false) (by decide +kernel)
theorem kit_lt {K : PySem.W.Frag} (d : PyData) : PySem.W.kitAny K (.type (tyOf d)) [.type "list", .type "tuple"] = some (isLst d || isTup d) := by
  refine kitAny_cons (kit_lst d) (fun h => ?_) fun h => by rw [h]; rfl
  refine kitAny_cons (kit_tup d) (fun h2 => ?_) fun h2 => by rw [h2, Bool.or_true]
  rw [h, h2]
  exact kitAny_nil
/-! ### the data's own words -/
mutual
def fineD : PyData → Bool
  | .str s => decide (s.length ≤ 1000)
  | .list ds => decide (ds.length ≤ 1000) && fineAll ds
  | .tuple ds => decide (ds.length ≤ 1000) && fineAll ds
  | _ => true
def fineAll : List PyData → Bool
  | [] => true
  | d :: ds => fineD d && fineAll ds
end
theorem fine_at : ∀ {ds : List PyData} {i : Nat} {d : PyData}, fineAll ds = true → ds[i]? = some d → fineD d = true
  | [], i, d, _, h => by simp at h
  | a :: r, 0, d, hf, h => by
    have e := Option.some.inj h
    rw [← e]
    exact (Bool.and_eq_true_iff.mp hf).1
  | a :: r, i + 1, d, hf, h => fine_at (i := i) (Bool.and_eq_true_iff.mp hf).2 h
theorem fine_str {s : Str} (h : fineD (.str s) = true) : s.length ≤ 1000 := of_decide_eq_true h
theorem fine_tup {ds : List PyData} (h : fineD (.tuple ds) = true) : ds.length ≤ 1000 ∧ fineAll ds = true := by
  have h' := Bool.and_eq_true_iff.mp h
  exact ⟨of_decide_eq_true h'.1, h'.2⟩
theorem fine_lst {ds : List PyData} (h : fineD (.list ds) = true) : ds.length ≤ 1000 ∧ fineAll ds = true := by
  have h' := Bool.and_eq_true_iff.mp h
  exact ⟨of_decide_eq_true h'.1, h'.2⟩

def okD : PyData → Bool
  | .dict _ => true
  | d => fineD d && SeqAt.shaped d
theorem ok_str {s : Str} (h : okD (.str s) = true) : s.length ≤ 1000 := fine_str (Bool.and_eq_true_iff.mp h).1
theorem ok_tup {ds : List PyData} (h : okD (.tuple ds) = true) : ds.length ≤ 1000 ∧ fineAll ds = true ∧ SeqAt.shaped (.tuple ds) = true := by
  have h' := Bool.and_eq_true_iff.mp h
  exact ⟨(fine_tup h'.1).1, (fine_tup h'.1).2, h'.2⟩
theorem ok_lst {ds : List PyData} (h : okD (.list ds) = true) : ds.length ≤ 1000 ∧ fineAll ds = true ∧ SeqAt.shaped (.list ds) = true := by
  have h' := Bool.and_eq_true_iff.mp h
  exact ⟨(fine_lst h'.1).1, (fine_lst h'.1).2, h'.2⟩
theorem lay_at : ∀ {ds : List PyData} {i : Nat} {d : PyData}, PyData.canLayAll0 ds = true → ds[i]? = some d → PyData.canLay0 d = true
  | [], i, d, _, h => by simp at h
  | a :: r, 0, d, hf, h => by
    have e := Option.some.inj h
    rw [← e]
    have hf' : PyData.canLay0 a = true ∧ PyData.canLayAll0 r = true := by simpa [PyData.canLayAll0] using hf
    exact hf'.1
  | a :: r, i + 1, d, hf, h => by
    have hf' : PyData.canLay0 a = true ∧ PyData.canLayAll0 r = true := by simpa [PyData.canLayAll0] using hf
    exact lay_at (i := i) hf'.2 h
theorem dep_at : ∀ {ds : List PyData} {i : Nat} {d : PyData}, ds[i]? = some d → PyData.depth d ≤ PyData.depthAll ds
  | [], i, d, h => by simp at h
  | a :: r, 0, d, h => by
    have e := Option.some.inj h
    rw [← e]
    simp only [PyData.depthAll]
    exact Nat.le_max_left _ _
  | a :: r, i + 1, d, h => by
    have := dep_at (ds := r) (i := i) h
    simp only [PyData.depthAll]
    exact Nat.le_trans this (Nat.le_max_right _ _)
theorem nodict {d : PyData} (h : PyData.canLay0 d = true) : ∀ kvs, d ≠ .dict kvs := by
  rintro kvs rfl
  simp [PyData.canLay0] at h
theorem ok_of {d : PyData} (h : PyData.canLay0 d = true) (hf : fineD d = true) (hd : PyData.depth d ≤ 64) : okD d = true := by
  have hs : SeqAt.shaped d = true := by
    unfold SeqAt.shaped
    rw [h, Bool.true_and, decide_eq_true_iff]
    exact hd
  cases d <;> first | rfl | (show (fineD _ && SeqAt.shaped _) = true; rw [hf, hs]; rfl)
theorem tup_at {ds : List PyData} {i : Nat} {d : PyData} (h : okD (.tuple ds) = true) (hi : ds[i]? = some d) : okD d = true ∧ SeqAt.shaped d = true := by
  obtain ⟨_, h2, h3⟩ := ok_tup h
  have hl : PyData.canLayAll0 ds = true := by simpa [PyData.canLay0] using SeqAt.canLay_of_shaped h3
  have hd : PyData.depth d ≤ 64 := by
    have a := dep_at hi
    have b := SeqAt.depth_of_shaped h3
    simp only [PyData.depth] at b
    omega
  have l := lay_at hl hi
  exact ⟨ok_of l (fine_at h2 hi) hd, by unfold SeqAt.shaped; rw [l, Bool.true_and, decide_eq_true_iff]; exact hd⟩
theorem lst_at {ds : List PyData} {i : Nat} {d : PyData} (h : okD (.list ds) = true) (hi : ds[i]? = some d) : okD d = true ∧ SeqAt.shaped d = true := by
  obtain ⟨_, h2, h3⟩ := ok_lst h
  have hl : PyData.canLayAll0 ds = true := by simpa [PyData.canLay0] using SeqAt.canLay_of_shaped h3
  have hd : PyData.depth d ≤ 64 := by
    have a := dep_at hi
    have b := SeqAt.depth_of_shaped h3
    simp only [PyData.depth] at b
    omega
  have l := lay_at hl hi
  exact ⟨ok_of l (fine_at h2 hi) hd, by unfold SeqAt.shaped; rw [l, Bool.true_and, decide_eq_true_iff]; exact hd⟩
def numD : PyData → Bool | .int _ => true | _ => false
def listD (d : PyData) : Bool := isLst d || isTup d
def nameD : PyData → Bool | .str s => nameB s | _ => false
def kindsD (k : PyData) : Bool := PyData.eqv (.str "pair") k || (PyData.eqv (.str "row") k || (PyData.eqv (.str "heap") k || false))
def signD : PyData → Bool
  | .tuple [n, k, .int m] => nameD n && if PyData.eqv k (.str "plain") then decide (0 ≤ m ∧ m ≤ 4) else kindsD k && decide (m = 2)
  | _ => false
theorem one_more {K : PySem.W.Frag} {H : Hp} {xs : List V} {d : PyData} {ds : List PyData} (h : DpAll K H xs (d :: ds)) : ∃ x r, xs = x :: r ∧ Dp K H x d ∧ DpAll K H r ds := by
  cases h with
  | cons h t => exact ⟨_, _, rfl, h, t⟩
theorem no_more {K : PySem.W.Frag} {H : Hp} {xs : List V} (h : DpAll K H xs []) : xs = [] := by
  cases h with
  | nil => rfl
theorem three {K : PySem.W.Frag} {H : Hp} {xs : List V} {ds : List PyData} (h : DpAll K H xs ds) (hl : ds.length = 3) : ∃ a b c x y z, ds = [a, b, c] ∧ xs = [x, y, z] ∧ Dp K H x a ∧ Dp K H y b ∧ Dp K H z c := by
  match ds, hl with
  | [a, b, c], _ =>
    obtain ⟨x, r, rfl, h1, t1⟩ := one_more h
    obtain ⟨y, r, rfl, h2, t2⟩ := one_more t1
    obtain ⟨z, r, rfl, h3, t3⟩ := one_more t2
    cases no_more t3
    exact ⟨a, b, c, x, y, z, rfl, rfl, h1, h2, h3⟩
theorem signD_len : ∀ {ds : List PyData}, ds.length ≠ 3 → signD (.tuple ds) = false
  | [], _ => rfl
  | [_], _ => rfl
  | [_, _], _ => rfl
  | [_, _, _], h => absurd rfl h
  | a :: b :: c :: d :: r, _ => by
    cases c <;> rfl
theorem signD_name {n k m : PyData} (h : nameD n = false) : signD (.tuple [n, k, m]) = false := by
  cases m with
  | int i =>
    show (nameD n && _) = false
    rw [h, Bool.false_and]
  | _ => rfl
theorem signD_num {n k m : PyData} (h : numD m = false) : signD (.tuple [n, k, m]) = false := by
  cases m with
  | int i => cases h
  | _ => rfl
theorem signD_plain {n k : PyData} {m : Int} (h : nameD n = true) (hp : PyData.eqv k (.str "plain") = true) : signD (.tuple [n, k, .int m]) = decide (0 ≤ m ∧ m ≤ 4) := by
  show (nameD n && if PyData.eqv k (.str "plain") = true then decide (0 ≤ m ∧ m ≤ 4) else kindsD k && decide (m = 2)) = _
  rw [h, Bool.true_and, if_pos hp]
theorem signD_kind {n k : PyData} {m : Int} (h : nameD n = true) (hp : ¬ PyData.eqv k (.str "plain") = true) : signD (.tuple [n, k, .int m]) = (kindsD k && decide (m = 2)) := by
  show (nameD n && if PyData.eqv k (.str "plain") = true then decide (0 ≤ m ∧ m ≤ 4) else kindsD k && decide (m = 2)) = _
  rw [h, Bool.true_and, if_neg hp]
/-- what the text's constants and the built-ins are -/
structure Cs (mg : Str → Option Value) : Prop where
  small : ∃ t, mg "SMALL" = some (.str abc t)
  nlet : ∃ t, mg "NAME_LETTERS" = some (.int 8 t)
  msig : ∃ t, mg "MOST_SIGNS" = some (.int 24 t)
  mpla : ∃ t, mg "MOST_PLAIN" = some (.int 4 t)
  isi : mg "isinstance" = none
  int : mg "int" = none
  bool : mg "bool" = none
  str : mg "str" = none
  list : mg "list" = none
  tuple : mg "tuple" = none
  len : mg "len" = none
  all : mg "all" = none
  range : mg "range" = none
  repr : mg "repr" = none
  dict : mg "dict" = none
abbrev sNum : Stmt := topS 15
abbrev sList : Stmt := topS 16
abbrev sSmall : Stmt := topS 17
abbrev sName : Stmt := topS 18
abbrev sSign : Stmt := topS 19
def spP (K : PySem.W.Frag) (f : PyData → Bool) : Sp := fun vs H Q _ => ∃ (v : V) (d : PyData), vs = [v] ∧ Dm K H v d ∧ okD d = true ∧ ∀ H', Same H H' → Q (.bl (f d)) H'
def spSmall : Sp := fun vs H Q _ => ∃ (s : Str), vs = [.str s] ∧ s.length ≤ 100000 ∧ ∀ H', Same H H' → Q (.bl (s.cps.toList.all isLow)) H'
section
variable {P : Program} {w : World} {K : PySem.W.Frag} {mg : Str → Option Value} {base : Heap}
theorem scNum : FnScope ["thing"] ["thing"] (defScope sNum) := ⟨rfl, rfl, rfl, by decide +kernel, rfl, by decide +kernel, by decide +kernel⟩
theorem ok_num {f : Addr} {fd : FuncData} (F : Fun K "is_number" "is_number" sNum f fd) (T : Cs mg) : FnOk P w K mg base CX0 1 f fd ["thing"] (spP K numD) := by
  refine F.ok scNum (fun vs H Q E h => ?_) (fun cdv A outer s H vs Q E hr h => ?_)
  · obtain ⟨v, d, rfl, _⟩ := h
    rfl
  · obtain ⟨v, d, rfl, hd, fd', k⟩ := h
    refine ⟨_, pss_one (ps_ret (pe_and (pe_callB call_isi (by rfl) T.isi boot_isinstance (pa_cons (pv 0) (pa_cons (pe_bltn (v := .ty "int") (by rfl) T.int boot_int rfl) pa_nil)))
      (pe_one (pe_not (pe_callB call_isi (by rfl) T.isi boot_isinstance (pa_cons (pv 0) (pa_cons (pe_bltn (v := .ty "bool") (by rfl) T.bool boot_bool rfl) pa_nil))))))), ?_⟩
    refine ⟨_, rfl, _, _, _, _, _, rfl, .ty "int", tyx_of hd, kit_int d, _, rfl, ?_⟩
    refine ite2 (fun h1 => ?_) (fun h1 => ?_)
    · refine ⟨_, rfl, _, _, _, _, _, rfl, .ty "bool", tyx_of hd, kit_bool d, _, rfl, ?_⟩
      have e : (!isBool d) = numD d := by cases d <;> first | rfl | (exact absurd h1 Bool.false_ne_true)
      show Q (.bl (!isBool d)) H
      rw [e]
      exact k H (Same.refl H)
    · have e : false = numD d := by cases d <;> first | rfl | (exact absurd rfl h1)
      show Q (.bl false) H
      rw [e]
      exact k H (Same.refl H)
theorem scList : FnScope ["thing"] ["thing"] (defScope sList) := ⟨rfl, rfl, rfl, by decide +kernel, rfl, by decide +kernel, by decide +kernel⟩
theorem ok_list {f : Addr} {fd : FuncData} (F : Fun K "is_list" "is_list" sList f fd) (T : Cs mg) : FnOk P w K mg base CX0 1 f fd ["thing"] (spP K listD) := by
  refine F.ok scList (fun vs H Q E h => ?_) (fun cdv A outer s H vs Q E hr h => ?_)
  · obtain ⟨v, d, rfl, _⟩ := h
    rfl
  · obtain ⟨v, d, rfl, hd, fd', k⟩ := h
    refine ⟨_, pss_one (ps_ret (pe_callB call_isiT (by rfl) T.isi boot_isinstance (pa_cons (pv 0) (pa_cons (pe_tup (pa_cons (pe_bltn (v := .ty "list") (by rfl) T.list boot_list rfl) (pa_cons (pe_bltn (v := .ty "tuple") (by rfl) T.tuple boot_tuple rfl) pa_nil))) pa_nil)))), ?_⟩
    refine ⟨_, rfl, (by show 2 ≤ sizeLine; decide), fun p hp => ⟨_, p, _, _, _, _, rfl, upd_same, .cons (.ty "list") (.cons (.ty "tuple") .nil), tyx_of (hd.same (Same.new (Same.refl H) hp)), kit_lt d, k _ (Same.new (Same.refl H) hp)⟩⟩
theorem mem_abc (c : Nat) : decide (c ∈ abc.cps.toList) = isLow c := by
  rw [abc_l]
  unfold isLow
  by_cases h : 97 ≤ c ∧ c ≤ 122
  · rw [decide_eq_true h, decide_eq_true_iff, List.mem_map]
    exact ⟨c - 97, List.mem_range.mpr (by omega), by omega⟩
  · rw [decide_eq_false h, decide_eq_false_iff_not, List.mem_map]
    rintro ⟨a, h1, h2⟩
    have := List.mem_range.mp h1
    omega
theorem scSmall : FnScope ["text", "letter"] ["text"] (defScope sSmall) := ⟨rfl, rfl, rfl, by decide +kernel, rfl, by decide +kernel, by decide +kernel⟩
theorem ok_small {f : Addr} {fd : FuncData} (F : Fun K "is_small" "is_small" sSmall f fd) (T : Cs mg) : FnOk P w K mg base CX0 1 f fd ["text"] spSmall := by
  refine F.ok scSmall (fun vs H Q E h => ?_) (fun cdv A outer s H vs Q E hr h => ?_)
  · obtain ⟨s, rfl, _⟩ := h
    rfl
  · obtain ⟨s, rfl, hl, k⟩ := h
    obtain ⟨t, hsm⟩ := T.small
    refine ⟨_, pss_one (ps_ret (pe_callB (cr_all rfl) (by rfl) T.all (by decide +kernel) (pa_cons (pe_lc (own := [("letter", 1)]) (g := gName 1) (tt := tYes) rfl scSmall.nd (pi_str (pv 0)) (blkOk_by (N := ["text", "letter"]) (sc := defScope sSmall) (by decide +kernel)) (fun _ _ _ _ _ => pg_name (i := 1) scSmall.nd rfl (Or.inl rfl)) (fun _ _ _ _ _ => pts_nil)
      (fun _ _ _ _ _ => pe_cmpR op_in_sign (pv 1) (pe_glob (v := .str abc) (by rfl) hsm ⟨_, rfl⟩) (by rfl))) pa_nil))), ?_⟩
    refine ⟨_, rfl, s, rfl, fun D hD => lc_it walk_str (fun i H6 => Same H H6 ∧ H6 D = some (.lst (((s.cps.toList.take i).map isLow).map V.bl))) ⟨Same.new (Same.refl H) hD, upd_same⟩ (fun _ _ _ _ => trivial) ?_ ?_⟩
    · rintro i x H6 H7 hi ⟨s6, eD⟩ ⟨rfl, ch, hch, rfl⟩
      have hch' : s.cps.toList[i]? = some ch := by rw [Array.getElem?_toList]; exact hch
      have hi' : i < s.length := hi
      refine ⟨rfl, _, rfl, ch, abc, rfl, rfl, _, eD, ?_, ?_, ?_⟩
      · rw [List.length_map, List.length_map, List.length_take, sizeLine_eq, len_toList]
        omega
      · exact fun b o e => by
          rw [upd_ne (ne_of_none e hD)]
          exact s6 b o e
      · rw [upd_same, take_snoc hch', List.map_append, List.map_append, mem_abc]
        rfl
    · rintro H6 ⟨s6, eD⟩
      rw [show s.cps.size = s.cps.toList.length from rfl, List.take_length] at eD
      refine ⟨D, _, rfl, SqL.of eD, ?_⟩
      have e : ((s.cps.toList.map isLow).all id) = s.cps.toList.all isLow := by
        rw [List.all_map]
        rfl
      rw [e]
      exact k H6 s6
theorem scName : FnScope ["thing"] ["thing"] (defScope sName) := ⟨rfl, rfl, rfl, by decide +kernel, rfl, by decide +kernel, by decide +kernel⟩
theorem ok_name {f : Addr} {fd : FuncData} (F : Fun K "is_name" "is_name" sName f fd) (DS : Df P w K mg base CX0 "is_small" 1 ["text"] spSmall) (T : Cs mg) : FnOk P w K mg base CX0 2 f fd ["thing"] (spP K nameD) := by
  refine F.ok scName (fun vs H Q E h => ?_) (fun cdv A outer s H vs Q E hr h => ?_)
  · obtain ⟨v, d, rfl, _⟩ := h
    rfl
  · obtain ⟨v, d, rfl, hd, fd', k⟩ := h
    obtain ⟨t, hnl⟩ := T.nlet
    refine ⟨_, pss_one (ps_ret (pe_and (pe_callB call_isi (by rfl) T.isi boot_isinstance (pa_cons (pv 0) (pa_cons (pe_bltn (v := .ty "str") (by rfl) T.str boot_str rfl) pa_nil)))
      (pe_and (pe_chain op_le op_le pe_int (pe_callB call_len (by rfl) T.len PySem.boot_len (pa_cons (pv 0) pa_nil)) (pe_glob (v := .int 8) (by rfl) hnl ⟨_, rfl⟩))
      (pe_one (pe_df DS hr pass0 (pa_cons (pv 0) pa_nil)))))), ?_⟩
    refine ⟨_, rfl, _, _, _, _, _, rfl, .ty "str", tyx_of hd, kit_str d, _, rfl, ?_⟩
    cases d with
    | str s =>
      have ev : v = .str s := by
        cases hd with
        | dat h => cases h; rfl
      subst ev
      have hl := ok_str fd'
      refine ⟨_, rfl, .str s, s.length, rfl, ⟨by rw [sizeLine_eq]; omega, rfl⟩, _, _, rfl, rfl, _, rfl, ?_⟩
      have hq : ∀ (b : Bool) (H' : Hp), b = nameB s → Same H H' → Q (.bl b) H' := fun b H' e sm => by
        rw [e]
        exact k H' sm
      refine ite2 (fun h1 => ?_) (fun h1 => ?_)
      · refine ⟨_, _, rfl, rfl, _, rfl, ?_⟩
        refine ite2 (fun h2 => ?_) (fun h2 => ?_)
        · refine ⟨_, rfl, s, rfl, by omega, fun H' sm => hq _ H' ?_ sm⟩
          unfold nameB
          rw [decide_eq_true_iff] at h1 h2
          rw [show decide (1 ≤ s.length ∧ s.length ≤ 8) = true from decide_eq_true (by omega), Bool.true_and]
        · refine hq _ H ?_ (Same.refl H)
          unfold nameB
          rw [decide_eq_true_iff] at h1 h2
          rw [show decide (1 ≤ s.length ∧ s.length ≤ 8) = false from decide_eq_false (by omega), Bool.false_and]
      · refine ⟨_, rfl, hq _ H ?_ (Same.refl H)⟩
        unfold nameB
        rw [decide_eq_true_iff] at h1
        rw [show decide (1 ≤ s.length ∧ s.length ≤ 8) = false from decide_eq_false (by omega), Bool.false_and]
    | _ => exact k H (Same.refl H)
def rInT (K : PySem.W.Frag) : R2 := fun x y H Q => ∃ d ds, Dp K H x d ∧ Dp K H y (.tuple ds) ∧ SeqAt.shaped d = true ∧ SeqAt.shaped (.tuple ds) = true ∧ Q (.bl (ds.any fun z => PyData.eqv z d)) H
theorem op_inT {X : Cx} (hu : X.A.units + 65 < cLine) : OpR X (compareOp .In) (rInT X.K) := fun pins s σ H x y v u Q I rx ry h => by
  obtain ⟨d, ds, hd, he, sd, se, q⟩ := h
  obtain ⟨_, r1⟩ := Dp.reads I d x v hd rx
  obtain ⟨_, r2⟩ := Dp.reads I (.tuple ds) y u he ry
  exact SeqAt.in_tuple_reads r2 r1 (by simpa [PyData.canLay0] using SeqAt.canLay_of_shaped se) (SeqAt.canLay_of_shaped sd) (room_in_shaped sd hu) ⟨.bl _, H, I, rfl, q⟩
theorem units65 {k : Nat} {A : Around} (r : Room k A) : A.units + 65 < cLine := by
  have := r.un
  omega
theorem scSign : FnScope ["thing", "name", "kind", "many"] ["thing"] (defScope sSign) := ⟨rfl, rfl, rfl, by decide +kernel, rfl, by decide +kernel, by decide +kernel⟩
theorem ok_sign {f : Addr} {fd : FuncData} (F : Fun K "is_sign" "is_sign" sSign f fd) (DN : Df P w K mg base CX0 "is_name" 2 ["thing"] (spP K nameD)) (DM : Df P w K mg base CX0 "is_number" 1 ["thing"] (spP K numD)) (T : Cs mg) : FnOk P w K mg base CX0 3 f fd ["thing"] (spP K signD) := by
  refine F.ok scSign (fun vs H Q E h => ?_) (fun cdv A outer s H vs Q E hr h => ?_)
  · obtain ⟨v, d, rfl, _⟩ := h
    rfl
  · obtain ⟨v, d, rfl, hd, fd', k⟩ := h
    obtain ⟨t, hmp⟩ := T.mpla
    refine ⟨_, pss_cons (ps_if (PW.pt (pw_or (pt_not (pt_val (pe_callB call_isi (by rfl) T.isi boot_isinstance (pa_cons (pv 0) (pa_cons (pe_bltn (v := .ty "tuple") (by rfl) T.tuple boot_tuple rfl) pa_nil))))) (pw_or1 (pt_cmpR op_ne (pe_callB call_len (by rfl) T.len PySem.boot_len (pa_cons (pv 0) pa_nil)) pe_int (nomark _))))) (pss_one (ps_ret pe_bl)) pss_nil)
      (pss_cons (ps_asg (pv 0) (pg_tup rfl (pgs_cons (pg_name (i := 1) scSign.nd rfl (Or.inl rfl)) (pgs_cons (pg_name (i := 2) scSign.nd rfl (Or.inl rfl)) (pgs_cons (pg_name (i := 3) scSign.nd rfl (Or.inl rfl)) pgs_nil)))))
      (pss_cons (ps_if (PW.pt (pw_or (pt_not (pt_val (pe_df DN hr pass0 (pa_cons (pv 1) pa_nil)))) (pw_or1 (pt_not (pt_val (pe_df DM hr pass0 (pa_cons (pv 3) pa_nil))))))) (pss_one (ps_ret pe_bl)) pss_nil)
      (pss_cons (ps_if (pt_cmpR (op_eqD hr.units) (pv 2) pe_str (nomark _)) (pss_one (ps_ret (pe_chain op_le op_le pe_int (pv 3) (pe_glob (v := .int 4) (by rfl) hmp ⟨_, rfl⟩)))) pss_nil)
      (pss_one (ps_ret (pe_and (pe_cmpR (op_inT (units65 hr)) (pv 2) (pe_tup (pa_cons pe_str (pa_cons pe_str (pa_cons pe_str pa_nil)))) (by rfl)) (pe_one (pe_cmpR op_eq (pv 3) pe_int (nomark _))))))))), ?_⟩
    refine ⟨_, rfl, _, _, _, _, _, rfl, .ty "tuple", tyx_of hd, kit_tup d, _, rfl, ?_⟩
    cases d with
    | tuple ds =>
      cases hd with
      | dat hd =>
        cases hd with
        | tup ht ha =>
          rename_i a xs
          have hlen := dpAll_len ha
          have hb := (ok_tup fd').1
          refine ⟨_, rfl, .ref a, ds.length, rfl, .inr ⟨xs, ht, hlen.symm⟩, rfl, _, rfl, ?_⟩
          refine ite2 (fun h3 => ?_) (fun h3 => ?_)
          · have e : false = signD (.tuple ds) := (signD_len fun h4 => by
              rw [h4] at h3
              exact absurd h3 (by decide)).symm
            show Q (.bl false) H
            rw [e]
            exact k H (Same.refl H)
          · have h3' : ds.length = 3 := by
              have h4 : ¬ (!decide (V.int (ds.length : Int) = V.int 3)) = true := h3
              have h5 : V.int (ds.length : Int) = V.int 3 := by simpa using h4
              have h6 : (ds.length : Int) = 3 := V.int.inj h5
              omega
            obtain ⟨dn, dk, dm, vn, vk, vm, rfl, rfl, an, ak, am⟩ := three ha h3'
            have on := tup_at (i := 0) fd' rfl
            have okk := tup_at (i := 1) fd' rfl
            have om := tup_at (i := 2) fd' rfl
            have hq : ∀ (b : Bool) (H' : Hp), b = signD (.tuple [dn, dk, dm]) → Same H H' → Q (.bl b) H' := fun b H' e sm => by
              rw [e]
              exact k H' sm
            refine ⟨_, rfl, a, _, rfl, ht, rfl, _, _, rfl, _, _, rfl, _, _, rfl, rfl, ?_⟩
            refine ⟨_, rfl, vn, dn, rfl, .dat an, on.1, fun H1 s1 => ⟨_, rfl, ?_⟩⟩
            refine ite2 (fun hn => ?_) (fun hn => ?_)
            · refine hq false H1 ?_ s1
              have hn' : nameD dn = false := by simpa using hn
              cases dm <;> first | rfl | (show false = (nameD dn && _); rw [hn', Bool.false_and])
            · have hn' : nameD dn = true := by
                have h0 : ¬ (!nameD dn) = true := hn
                simpa using h0
              refine ⟨_, rfl, vm, dm, rfl, .dat (dp_same s1 _ _ am), om.1, fun H2 s2 => ⟨_, rfl, ?_⟩⟩
              have s12 := s1.trans s2
              refine ite2 (fun hm => ?_) (fun hm => ?_)
              · refine hq false H2 ?_ s12
                have hm' : numD dm = false := by simpa using hm
                exact (signD_num hm').symm
              · have hm' : numD dm = true := by
                  have h0 : ¬ (!numD dm) = true := hm
                  simpa using h0
                cases dm with
                | int m =>
                  cases am
                  refine ⟨_, rfl, dk, .str (Str.ofString "plain"), dp_same s12 _ _ ak, .str _, okk.2, by decide +kernel, _, rfl, ?_⟩
                  refine ite2 (fun hp => ?_) (fun hp => ?_)
                  · have es := signD_plain (k := dk) (m := m) hn' hp
                    refine ⟨_, rfl, _, _, rfl, rfl, _, rfl, ?_⟩
                    refine ite2 (fun h1 => ?_) (fun h1 => ?_)
                    · refine ⟨_, _, rfl, rfl, hq _ H2 ?_ s12⟩
                      rw [es]
                      rw [decide_eq_true_iff] at h1
                      by_cases h2 : m ≤ 4
                      · rw [decide_eq_true h2, decide_eq_true ⟨h1, h2⟩]
                      · rw [decide_eq_false h2, decide_eq_false (fun z => h2 z.2)]
                    · refine hq _ H2 ?_ s12
                      rw [es]
                      rw [decide_eq_true_iff] at h1
                      rw [decide_eq_false (fun z => h1 z.1)]
                  · have es := signD_kind (k := dk) (m := m) hn' hp
                    refine ⟨_, rfl, (by show 3 ≤ sizeLine; decide), fun p hp2 => ⟨dk, [.str "pair", .str "row", .str "heap"], dp_same (Same.new s12 hp2) _ _ ak, .tup (SqT.of upd_same) (.cons (.str _) (.cons (.str _) (.cons (.str _) .nil))), okk.2, by decide +kernel, _, rfl, ?_⟩⟩
                    refine ite2 (fun hk => ?_) (fun hk => ?_)
                    · refine ⟨_, rfl, rfl, hq _ _ ?_ (Same.new s12 hp2)⟩
                      have hk' : kindsD dk = true := hk
                      rw [es, hk', Bool.true_and]
                      by_cases h2 : m = 2
                      · subst h2
                        rfl
                      · rw [decide_eq_false h2, decide_eq_false (fun z => h2 (V.int.inj z))]
                    · refine hq _ _ ?_ (Same.new s12 hp2)
                      have hk' : kindsD dk = false := by
                        have h0 : ¬ kindsD dk = true := hk
                        simpa using h0
                      rw [es, hk', Bool.false_and]
                | _ => cases hm'
    | _ => exact k H (Same.refl H)
end
end K1
set_option Elab.async false
set_option linter.all false
set_option maxRecDepth 100000
set_option maxHeartbeats 4000000
namespace K1
open PySem PySem.Spec PyProof.Rows L2
abbrev cSigns : Stmt := topS 20
abbrev sInit : Stmt := inClass cSigns 0
abbrev sRows : Stmt := inClass cSigns 1
abbrev sHas : Stmt := inClass cSigns 2
abbrev sKind : Stmt := inClass cSigns 3
abbrev sMany : Stmt := inClass cSigns 4
abbrev sLen : Stmt := inClass cSigns 5
abbrev sEq : Stmt := inClass cSigns 6
/-- the fields of signs, as __init__ stores them -/
def sgF (rt td : Addr) : List (Str × V) := putF "_table" (.ref td) (putF "_rows" (.ref rt) [])
theorem n_tr : ¬ (("_table" : Str) = "_rows") := by decide +kernel
theorem n_rt : ¬ (("_rows" : Str) = "_table") := by decide +kernel
theorem sgF_rows (rt td : Addr) : (sgF rt td).lookup ("_rows" : Str) = some (.ref rt) := by
  unfold sgF
  rw [lookup_putF, if_neg n_rt, lookup_putF, if_pos rfl]
theorem sgF_table (rt td : Addr) : (sgF rt td).lookup ("_table" : Str) = some (.ref td) := by
  unfold sgF
  rw [lookup_putF, if_pos rfl]
theorem sgF_no (rt td : Addr) {m : Str} (h1 : ¬ m = "_table") (h2 : ¬ m = "_rows") : (sgF rt td).lookup m = none := by
  unfold sgF
  rw [lookup_putF, if_neg h1, lookup_putF, if_neg h2]
  rfl
def nameOf : PyData → Str
  | .tuple (.str s :: _) => s
  | _ => Str.empty
def itemsD : PyData → List PyData
  | .list ds => ds
  | .tuple ds => ds
  | _ => []
def goRows : List PyData → List Str → Bool
  | [], _ => true
  | d :: ds, seen => signD d && (!decide (nameOf d ∈ seen) && goRows ds (seen ++ [nameOf d]))
def signsD (d : PyData) : Bool := listD d && (decide (1 ≤ (itemsD d).length ∧ (itemsD d).length ≤ 24) && goRows (itemsD d) [])
theorem signD_shape {d : PyData} (h : signD d = true) : ∃ s k m, d = .tuple [.str s, k, .int m] ∧ nameB s = true := by
  unfold signD at h
  split at h
  · rename_i n k m
    have hn := (Bool.and_eq_true_iff.mp h).1
    cases n with
    | str s => exact ⟨s, k, m, rfl, hn⟩
    | _ => cases hn
  · cases h
theorem go_nd : ∀ (ds : List PyData) (seen : List Str), goRows ds seen = true → seen.Nodup → (seen ++ ds.map nameOf).Nodup
  | [], seen, _, hn => by simpa using hn
  | d :: ds, seen, h, hn => by
    obtain ⟨_, h2⟩ := Bool.and_eq_true_iff.mp h
    obtain ⟨h3, h4⟩ := Bool.and_eq_true_iff.mp h2
    have hni : nameOf d ∉ seen := by simpa using h3
    have ih := go_nd ds (seen ++ [nameOf d]) h4 (by
      rw [List.nodup_append]
      refine ⟨hn, by simp, fun a ha b hb => ?_⟩
      rw [List.mem_singleton.mp hb]
      exact fun e => hni (e ▸ ha))
    rw [List.append_assoc] at ih
    exact ih
theorem go_all : ∀ (ds : List PyData) (seen : List Str), goRows ds seen = true → ∀ d ∈ ds, signD d = true
  | d :: ds, seen, h, e, he => by
    obtain ⟨h1, h2⟩ := Bool.and_eq_true_iff.mp h
    obtain ⟨_, h4⟩ := Bool.and_eq_true_iff.mp h2
    rcases List.mem_cons.mp he with rfl | he
    · exact h1
    · exact go_all ds _ h4 e he
/-- the table of these names -/
def kvsOf (ns : List Str) (xs : List V) : List (Key × V) := (ns.map Sum.inr).zip xs
theorem val_kvs (n : Str) : ∀ (ns : List Str) (xs : List V), ns.length = xs.length → (valV (kvsOf ns xs) (Sum.inr n : Key)).isSome = decide (n ∈ ns)
  | [], [], _ => by simp [kvsOf, valV]
  | a :: ns, x :: xs, h => by
    have ih := val_kvs n ns xs (by simpa using h)
    show (valV ((Sum.inr a, x) :: kvsOf ns xs) (Sum.inr n : Key)).isSome = _
    by_cases e : a = n
    · rw [valV_pos (p := ((Sum.inr a : Key), x)) (by rw [e])]
      simp [e]
    · rw [valV_neg (p := ((Sum.inr a : Key), x)) (fun z => e (Sum.inr.inj z)), ih]
      simp [Ne.symm e]
theorem kvs_snoc {ns : List Str} {xs : List V} (h : ns.length = xs.length) (n : Str) (x : V) : kvsOf (ns ++ [n]) (xs ++ [x]) = kvsOf ns xs ++ [(Sum.inr n, x)] := by
  unfold kvsOf
  rw [List.map_append, List.zip_append (by rw [List.length_map]; exact h)]
  rfl
/-- signs of the rows xs stand at p, their names ns -/
structure SgAt (K : PySem.W.Frag) (C : Addr) (H : Hp) (p rt td : Addr) (xs : List V) (ns : List Str) : Prop where
  ob : ∃ dx, H p = some (.ins C dx (sgF rt td))
  rt : SqT K H rt xs
  td : H td = some (.dK (kvsOf ns xs))
  len : ns.length = xs.length
  nd : ns.Nodup
/-- an own error without fields -/
structure XC (K : PySem.W.Frag) (mg : Str → Option Value) (x : Str) (C : Addr) : Prop where
  g : mg x = some (.ref C)
  exc : PySem.W.excIn K C [.type "ValueError", .type "Exception", .type "BaseException", .type "object"] "ValueError.__new__" = true
  kp : PySem.W.keepIn K (.ref C) = true
  sub : PySem.W.subIn K (.ref C) (.type "BaseException") = some true
  ty : PySem.W.typeIn K (.ref C) = some (.type "type")
/-- the class Signs -/
structure SgC (K : PySem.W.Frag) (C : Addr) : Prop where
  cl : Cls K C
  nR : NoAttr K C "_rows"
  nT : NoAttr K C "_table"
def iSeq (K : PySem.W.Frag) (tl : TE) : TI := fun σ H R => tl σ H fun x H1 => ∃ (a : Addr) (xs : List V), x = .ref a ∧ (SqL K H1 a xs ∨ SqT K H1 a xs) ∧ ∀ (J : It) (G : Hp → Prop), (∀ H', (SqL K H1 a xs → SqL K H' a xs) → (SqT K H1 a xs → SqT K H' a xs) → G H') → Walk J xs.length G (YAt xs) → R J H1
theorem sqt_same {K : PySem.W.Frag} {H H' : Hp} {a : Addr} {xs : List V} (s : Same H H') (h : SqT K H a xs) : SqT K H' a xs := by
  rcases h with (h | ⟨o, h⟩) | h
  · exact .inl (.inl (s _ _ h))
  · exact .inl (.inr ⟨o, s _ _ h⟩)
  · exact .inr h
theorem sql_off {K : PySem.W.Frag} {H1 H' : Hp} {td a : Addr} {z : List (Key × V)} {xs : List V} (s : Same H1 H') (h : SqL K (upd H1 td (.dK z)) a xs) : SqL K H' a xs := by
  have key : ∀ u, upd H1 td (.dK z) a = some u → u ≠ .dK z → H' a = some u := fun u e n => by
    by_cases q : a = td
    · rw [q, upd_same] at e
      exact absurd (Option.some.inj e).symm n
    · rw [upd_ne q] at e
      exact s _ _ e
  rcases h with (h | ⟨o, h⟩) | h
  · exact .inl (.inl (key _ h (by intro q; cases q)))
  · exact .inl (.inr ⟨o, key _ h (by intro q; cases q)⟩)
  · exact .inr h
theorem sqt_off {K : PySem.W.Frag} {H1 H' : Hp} {td a : Addr} {z : List (Key × V)} {xs : List V} (s : Same H1 H') (h : SqT K (upd H1 td (.dK z)) a xs) : SqT K H' a xs := by
  have key : ∀ u, upd H1 td (.dK z) a = some u → u ≠ .dK z → H' a = some u := fun u e n => by
    by_cases q : a = td
    · rw [q, upd_same] at e
      exact absurd (Option.some.inj e).symm n
    · rw [upd_ne q] at e
      exact s _ _ e
  rcases h with (h | ⟨o, h⟩) | h
  · exact .inl (.inl (key _ h (by intro q; cases q)))
  · exact .inl (.inr ⟨o, key _ h (by intro q; cases q)⟩)
  · exact .inr h
theorem pi_seq {X : Cx} {tg : Expr} {i : Nat} {x : Str} {pos : Pos} (hl : PE X (.Name x pos) (tVar i)) : PI X tg (.Name x pos) (iSeq X.K (tVar i)) := by
  refine ⟨fun pins s σ H R I h => ?_⟩
  obtain ⟨v, e, a, xs, ev, h, hr⟩ := h
  rcases h with hx | hx
  · exact (pi_list hl).run pins s σ H R I ⟨v, e, a, ev, ⟨xs, hx⟩, hr (Itl X.K a) (fun H' => SqL X.K H' a xs) (fun H' z _ => z hx) walk_list⟩
  · exact (pi_tup hl).run pins s σ H R I ⟨v, e, a, ev, ⟨xs, hx⟩, hr (Itt X.K a) (fun H' => SqT X.K H' a xs) (fun H' _ z => z hx) walk_tup⟩
theorem seq_of {K : PySem.W.Frag} {H : Hp} {v : V} {d : PyData} (h : Dm K H v d) (hl : listD d = true) : ∃ a xs, v = .ref a ∧ (SqL K H a xs ∨ SqT K H a xs) ∧ DpAll K H xs (itemsD d) := by
  cases h with
  | dat h =>
    cases h with
    | lst hs ha => exact ⟨_, _, rfl, .inl hs, ha⟩
    | tup hs ha => exact ⟨_, _, rfl, .inr hs, ha⟩
    | _ => cases hl
  | dic h => cases hl
theorem items_ok {d : PyData} (h : okD d = true) (hl : listD d = true) : (itemsD d).length ≤ 1000 ∧ ∀ (i : Nat) (e : PyData), (itemsD d)[i]? = some e → okD e = true ∧ SeqAt.shaped e = true := by
  cases d with
  | list ds => exact ⟨(ok_lst h).1, fun i e he => lst_at h he⟩
  | tuple ds => exact ⟨(ok_tup h).1, fun i e he => tup_at h he⟩
  | _ => cases hl
theorem dp_at' {K : PySem.W.Frag} {H : Hp} {xs : List V} {ds : List PyData} {i : Nat} {x : V} (h : DpAll K H xs ds) (hx : xs[i]? = some x) : ∃ d, ds[i]? = some d ∧ Dp K H x d := dpAll_at h hx
theorem row_of {K : PySem.W.Frag} {H : Hp} {x : V} {s : Str} {k m : PyData} (h : Dp K H x (.tuple [.str s, k, m])) : ∃ b vk vm, x = .ref b ∧ SqT K H b [.str s, vk, vm] ∧ Dp K H vk k ∧ Dp K H vm m := by
  cases h with
  | tup ht ha =>
    obtain ⟨a1, r, rfl, h1, t1⟩ := one_more ha
    obtain ⟨a2, r, rfl, h2, t2⟩ := one_more t1
    obtain ⟨a3, r, rfl, h3, t3⟩ := one_more t2
    cases no_more t3
    cases h1
    exact ⟨_, a2, a3, rfl, ht, h2, h3⟩
mutual
/-- an instance's fields may change: data stays -/
theorem dp_off {K : PySem.W.Frag} {H : Hp} {p C dx : Addr} {f1 f2 f3 : List (Str × V)} (hp : H p = some (.ins C dx f1)) : ∀ (d : PyData) (v : V), Dp K H v d → Dp K (upd (upd H p (.ins C dx f2)) p (.ins C dx f3)) v d
  | .none, _, .non => .non
  | .bool _, _, .bl b => .bl b
  | .int _, _, .int i => .int i
  | .str _, _, .str x => .str x
  | .list ds, _, .lst h a => .lst (by
      rcases h with (h | ⟨o, h⟩) | h
      · exact .inl (.inl (by rw [upd_ne (fun q => by rw [q, hp] at h; cases h), upd_ne (fun q => by rw [q, hp] at h; cases h)]; exact h))
      · exact .inl (.inr ⟨o, by rw [upd_ne (fun q => by rw [q, hp] at h; cases h), upd_ne (fun q => by rw [q, hp] at h; cases h)]; exact h⟩)
      · exact .inr h) (dpAll_off hp ds _ a)
  | .tuple ds, _, .tup h a => .tup (by
      rcases h with (h | ⟨o, h⟩) | h
      · exact .inl (.inl (by rw [upd_ne (fun q => by rw [q, hp] at h; cases h), upd_ne (fun q => by rw [q, hp] at h; cases h)]; exact h))
      · exact .inl (.inr ⟨o, by rw [upd_ne (fun q => by rw [q, hp] at h; cases h), upd_ne (fun q => by rw [q, hp] at h; cases h)]; exact h⟩)
      · exact .inr h) (dpAll_off hp ds _ a)
theorem dpAll_off {K : PySem.W.Frag} {H : Hp} {p C dx : Addr} {f1 f2 f3 : List (Str × V)} (hp : H p = some (.ins C dx f1)) : ∀ (ds : List PyData) (vs : List V), DpAll K H vs ds → DpAll K (upd (upd H p (.ins C dx f2)) p (.ins C dx f3)) vs ds
  | [], _, .nil => .nil
  | d :: ds, _, .cons h t => .cons (dp_off hp d _ h) (dpAll_off hp ds _ t)
end
/-- what is made of signs: all but the new object's own fields stands -/
def spInit (K : PySem.W.Frag) (C CN : Addr) : Sp := fun vs H Q E => ∃ (p dx : Addr) (v : V) (d : PyData), vs = [.ref p, v] ∧ H p = some (.ins C dx []) ∧ Dm K H v d ∧ okD d = true ∧
  (signsD d = true → ∀ (rt td : Addr) (xs : List V) (H' : Hp), SgAt K C H' p rt td xs ((itemsD d).map nameOf) → DpAll K H' xs (itemsD d) → H td = none → (∀ b o, H b = some o → b ≠ p → H' b = some o) → Q .non H') ∧
  (signsD d = false → ∀ H', Same H H' → E (.ref CN) none H')
section
variable {P : Program} {w : World} {K : PySem.W.Frag} {mg : Str → Option Value} {base : Heap}
theorem scI : FnScope ["self", "rows", "table", "row"] ["self", "rows"] (defScope sInit) := ⟨rfl, rfl, rfl, by decide +kernel, rfl, by decide +kernel, by decide +kernel⟩
theorem ok_init {f C CN : Addr} {fd : FuncData} (F : Fun K "__init__" "Signs.__init__" sInit f fd) (DL : Df P w K mg base CX0 "is_list" 1 ["thing"] (spP K listD)) (DS : Df P w K mg base CX0 "is_sign" 3 ["thing"] (spP K signD)) (T : Cs mg) (N : XC K mg "NoSigns" CN) (G : SgC K C) : FnOk P w K mg base (L2.CX P w) 5 f fd ["self", "rows"] (spInit K C CN) := by
  refine F.okX scI (fun vs H Q E h => ?_) (fun cdv A outer s H vs Q E hr h => ?_)
  · obtain ⟨p, dx, v, d, rfl, _⟩ := h
    rfl
  · obtain ⟨p, dx, v, d, rfl, hp, hd, od, kY, kN⟩ := h
    obtain ⟨t, hms⟩ := T.msig
    have hu' := hu_of hr
    have hr3 : Room 3 _ := hr.mono (by decide)
    refine ⟨_, pss_cons (ps_if (PW.pt (pw_or (pt_not (pt_val (pe_df DL hr pass0 (pa_cons (pv 1) pa_nil)))) (pw_or1 (pt_not (pt_chain op_le op_le pe_int (pe_callB call_len (by rfl) T.len PySem.boot_len (pa_cons (pv 1) pa_nil)) (pe_glob (v := .int 24) (by rfl) hms ⟨_, rfl⟩))))))
        (pss_one (ps_raise rfl (takes_of rfl rfl rfl rfl) (pmk_own PySem.F.excBase_ValueError N.exc N.g N.kp (raises_own N.sub N.ty) rfl))) pss_nil)
      (pss_cons (ps_set (i := 2) scI.nd rfl (Or.inl rfl) pe_dnewK)
      (pss_cons (ps_for (passes_of rfl) rfl (pi_seq (pv 1)) (pg_name (i := 3) scI.nd rfl (Or.inl rfl))
        (pss_cons (ps_if (PW.pt (pw_or (pt_not (pt_val (pe_df DS hr pass0 (pa_cons (pv 3) pa_nil)))) (pw_or1 (pt_cmp (pc_din hu' (pe_ix ix_tup (pv 3) pe_int (fun _ _ => rfl)) (pv 2))))))
          (pss_one (ps_raise rfl (takes_of rfl rfl rfl rfl) (pmk_own PySem.F.excBase_ValueError N.exc N.g N.kp (raises_own N.sub N.ty) rfl))) pss_nil)
        (pss_one (ps_dput hu' (pv 2) (pe_ix ix_tup (pv 3) pe_int (fun _ _ => rfl)) (pv 3) rfl))))
      (pss_cons (ps_fld (pv 0) (pe_callTy call_tuple_of (by rfl) T.tuple boot_tuple (pa_cons (pv 1) pa_nil)) rfl)
      (pss_one (ps_fld (pv 0) (pv 2) rfl))))), ?_⟩
    refine ⟨_, rfl, v, d, rfl, hd, od, fun H1 s1 => ⟨_, rfl, ?_⟩⟩
    refine ite2 (fun hl => ?_) (fun hl => ?_)
    · have hl' : listD d = false := by simpa using hl
      exact kN (by unfold signsD; rw [hl', Bool.false_and]) H1 s1
    · have hl' : listD d = true := by
        have h0 : ¬ (!listD d) = true := hl
        simpa using h0
      obtain ⟨a, xs, rfl, hS, hA⟩ := seq_of (hd.same s1) hl'
      have hlen := dpAll_len hA
      obtain ⟨l1, ok1⟩ := items_ok od hl'
      have sd : signsD d = (decide (1 ≤ (itemsD d).length ∧ (itemsD d).length ≤ 24) && goRows (itemsD d) []) := by
        unfold signsD
        rw [hl', Bool.true_and]
      refine ⟨_, rfl, .ref a, xs.length, rfl, hS.elim (fun z => .inl ⟨_, z, rfl⟩) (fun z => .inr ⟨_, z, rfl⟩), _, _, rfl, rfl, _, rfl, ?_⟩
      refine ite2 (fun h1 => ?_) (fun h1 => ?_)
      · refine ⟨_, _, rfl, rfl, _, rfl, ?_⟩
        refine ite2 (fun h2 => ?_) (fun h2 => ?_)
        · refine kN ?_ H1 s1
          have h2' : ¬ ((xs.length : Int) ≤ 24) := by simpa using h2
          rw [sd, decide_eq_false (fun z => h2' (by omega)), Bool.false_and]
        · have hb : 1 ≤ (itemsD d).length ∧ (itemsD d).length ≤ 24 := by
            have h1' : (1 : Int) ≤ xs.length := by simpa using h1
            have h2' : (xs.length : Int) ≤ 24 := by simpa using h2
            omega
          have sd' : signsD d = goRows (itemsD d) [] := by
            rw [sd, decide_eq_true hb, Bool.true_and]
          intro td htd
          have npd : ∀ {H' : Hp}, Same H1 H' → H' p = some (.ins C dx []) := fun z => z _ _ (s1 _ _ hp)
          have ntp : td ≠ p := fun z => by rw [z, s1 _ _ hp] at htd; cases htd
          refine ⟨_, rfl, a, xs, rfl, hS.elim (fun z => .inl ((Same.new (Same.refl H1) htd).seq z)) (fun z => .inr (sqt_same (Same.new (Same.refl H1) htd) z)), fun J G' hG hW => ?_⟩
          refine for_it hW (fun i σ H' => ∃ v3 : Option V, σ = [some (.ref p), some (.ref a), some (.ref td), v3] ∧ Same H1 H' ∧ H' td = some (.dK (kvsOf (((itemsD d).take i).map nameOf) (xs.take i))) ∧ goRows (itemsD d) [] = goRows ((itemsD d).drop i) (((itemsD d).take i).map nameOf))
            ⟨none, rfl, Same.new (Same.refl H1) htd, upd_same, rfl⟩ ?_ ?_ ?_
          · rintro i σ H' _ ⟨_, _, sm, etd, _⟩
            exact hG H' (sql_off sm) (sqt_off sm)
          · rintro i x σ H' H'' hi ⟨v3, rfl, sm, etd, hg⟩ ⟨rfl, hx⟩
            obtain ⟨di, hdi, hx'⟩ := dp_at' hA hx
            have hDi : (itemsD d).drop i = di :: (itemsD d).drop (i + 1) := by
              obtain ⟨hi2, e⟩ := List.getElem?_eq_some_iff.mp hdi
              rw [List.drop_eq_getElem_cons hi2, e]
            rw [hDi] at hg
            have hg' : goRows (itemsD d) [] = (signD di && (!decide (nameOf di ∈ ((itemsD d).take i).map nameOf) && goRows ((itemsD d).drop (i + 1)) (((itemsD d).take i).map nameOf ++ [nameOf di]))) := hg
            refine ⟨_, rfl, x, di, rfl, .dat (dp_same sm _ _ hx'), (ok1 i di hdi).1, fun H2 s2 => ⟨_, rfl, ?_⟩⟩
            have sm2 := sm.trans s2
            have etd2 := s2 _ _ etd
            refine ite2 (fun hs => ?_) (fun hs => ?_)
            · have hs' : signD di = false := by simpa using hs
              exact kN (by rw [sd', hg', hs', Bool.false_and]) H2 (s1.trans sm2)
            · have hs' : signD di = true := by
                have h0 : ¬ (!signD di) = true := hs
                simpa using h0
              obtain ⟨nm, kk, mm, rfl, hnm⟩ := signD_shape hs'
              obtain ⟨b, vk, vm, rfl, hb, _, _⟩ := row_of hx'
              have hb2 := sqt_same sm2 hb
              refine ⟨_, rfl, b, _, 0, _, rfl, rfl, hb2, atI_nat (j := 0) rfl, _, rfl, td, _, rfl, DGet.k (k := Sum.inr nm) etd2, _, rfl, ?_⟩
              have hll : (((itemsD d).take i).map nameOf).length = (xs.take i).length := by
                rw [List.length_map, List.length_take, List.length_take, hlen]
              rw [val_kvs nm _ _ hll]
              refine ite2 (fun hm => ?_) (fun hm => ?_)
              · exact kN (by rw [sd', hg', hs', Bool.true_and, show nameOf (.tuple [.str nm, kk, .int mm]) = nm from rfl, hm]; rfl) H2 (s1.trans sm2)
              · have hm' : decide (nm ∈ ((itemsD d).take i).map nameOf) = false := by simpa using hm
                refine ⟨_, rfl, _, rfl, _, rfl, b, _, 0, _, rfl, rfl, hb2, atI_nat (j := 0) rfl, td, _, rfl, DPut.k (k := Sum.inr nm) etd2 ?_, _, rfl, ?_, ?_, ?_⟩
                · unfold kvsOf
                  rw [List.length_zip, List.length_map, List.length_map, List.length_take, sizeLine_eq]
                  omega
                · exact fun c o e => by
                    rw [upd_ne (ne_of_none e htd)]
                    exact sm2 c o e
                · have hv : valV (kvsOf (((itemsD d).take i).map nameOf) (xs.take i)) (Sum.inr nm : Key) = none := by
                    have := val_kvs nm _ _ hll
                    rw [hm'] at this
                    simpa using this
                  rw [upd_same, putK_new _ hv, take_snoc hdi, take_snoc hx, List.map_append, show ([PyData.tuple [.str nm, kk, .int mm]] : List PyData).map nameOf = [nm] from rfl, kvs_snoc hll]
                · rw [hg', hs', show nameOf (.tuple [.str nm, kk, .int mm]) = nm from rfl, hm', take_snoc hdi, List.map_append]
                  rfl
          · rintro σ H' ⟨v3, rfl, sm, etd, hg⟩
            have hgT : signsD d = true := by
              rw [sd', hg, List.drop_of_length_le (by omega)]
              rfl
            rw [hlen, List.take_length, ← hlen, List.take_length] at etd
            have fin : ∀ (rt : Addr) (H3 : Hp), Same H' H3 → SqT K H3 rt xs → sFld K (tVar 0) (tVar 2) "_table" { nx := fun _ H' => Q .non H', rt := Q } [some (.ref p), some (.ref a), some (.ref td), v3] (upd H3 p (.ins C dx (putF "_rows" (.ref rt) []))) := by
              intro rt H3 s3 hrt
              have n0 : ∀ (o : HO), (upd H3 p (.ins C dx (putF "_rows" (.ref rt) []))) td = some o ↔ H3 td = some o := fun o => by rw [upd_ne ntp]
              refine ⟨_, rfl, _, rfl, p, C, dx, _, rfl, upd_same, G.cl, G.nT, (by show 1 < 1000; decide), ?_⟩
              have hp3 : H3 p = some (.ins C dx []) := s3 _ _ (npd sm)
              have offL : ∀ {c : Addr} {o : HO}, H3 c = some o → c ≠ p → upd (upd H3 p (.ins C dx (putF "_rows" (.ref rt) []))) p (.ins C dx (putF "_table" (.ref td) (putF "_rows" (.ref rt) []))) c = some o := fun {c o} e n => by
                rw [upd_ne n, upd_ne n]
                exact e
              have offT : ∀ {c : Addr} {ys : List V}, SqT K H3 c ys → SqT K (upd (upd H3 p (.ins C dx (putF "_rows" (.ref rt) []))) p (.ins C dx (putF "_table" (.ref td) (putF "_rows" (.ref rt) [])))) c ys := fun {c ys} z => by
                rcases z with (z | ⟨o, z⟩) | z
                · exact .inl (.inl (offL z (fun q => by rw [q, hp3] at z; cases z)))
                · exact .inl (.inr ⟨o, offL z (fun q => by rw [q, hp3] at z; cases z)⟩)
                · exact .inr z
              refine kY hgT rt td xs _ ⟨⟨dx, upd_same⟩, offT hrt, offL (s3 _ _ etd) ntp, ?_, ?_⟩ ?_ (s1.free htd) ?_
              · rw [List.length_map, hlen]
              · have := go_nd (itemsD d) [] (by rw [← sd']; exact hgT) List.nodup_nil
                simpa using this
              · exact dpAll_off (s3 _ _ (npd sm)) _ _ (dp_sameAll (sm.trans s3) _ _ hA)
              · exact fun c o e n => offL (s3 _ _ (sm _ _ (s1 _ _ e))) n
            rcases hS with hS | hS
            · refine ⟨_, rfl, a, xs, rfl, .inl ⟨sm.seq hS, fun l hl2 => ⟨_, rfl, p, C, dx, [], rfl, Same.new (Same.refl H') hl2 _ _ (npd sm), G.cl, G.nR, (by show 0 < 1000; decide), fin l _ (Same.new (Same.refl H') hl2) (SqT.of upd_same)⟩⟩⟩
            · exact ⟨_, rfl, a, xs, rfl, .inr ⟨sqt_same sm hS, ⟨_, rfl, p, C, dx, [], rfl, npd sm, G.cl, G.nR, (by show 0 < 1000; decide), fin a H' (Same.refl H') (sqt_same sm hS)⟩⟩⟩
      · refine ⟨_, rfl, ?_⟩
        refine kN ?_ H1 s1
        have h1' : ¬ ((1 : Int) ≤ xs.length) := by simpa using h1
        rw [sd, decide_eq_false (fun z => h1' (by omega)), Bool.false_and]
end
end K1
set_option Elab.async false
set_option linter.all false
set_option maxRecDepth 100000
set_option maxHeartbeats 4000000
namespace PySem
namespace NsX
open PySem.W PySem.Calls PyProof.Rows PySem.HandSPX
/-! ### an own error over TurnError over ValueError: its __init__ says super().__init__('..') and stores one field -/
abbrev sNs : Stmt := L2.inClass (K1.topS 3) 0
/-- what the written part says of the class at C, of its base at CT, of its __init__ at fI, and of the cell at cc -/
structure NsTxt (prog : Program) (K : Frag) (C CT fI cc cda : Addr) : Prop where
  cls : ∃ nm q N bs bm sn sub ab col dd k0 k1 k2 k3 k5, K.lookup C = some (excClassObj nm q C N bs bm true sn sub ab col dd k0 k1 k2 k3 k5 "ValueError.__new__") ∧ refsVE bm = true ∧ alongIn K "__init__" bm = some (some (.builtin "ValueError.__init__"))
  sa : findIn K (.ref C) "__setattr__" = some (some (.builtin "object.__setattr__"))
  noN : findIn K (.ref C) "name" = some none
  iC : findIn K (.ref C) "__init__" = some (some (.ref fI))
  tC : typeIn K (.ref fI) = some (.type "function")
  kC : keepIn K (.ref C) = true
  exC : subIn K (.ref C) (.type "BaseException") = some true
  veC : subIn K (.ref C) (.type "ValueError") = some true
  mrC : mroIn K C (.ref C) = some true
  tyC : typeIn K (.ref C) = some (.type "type")
  opq : nsIn K cStatics "thirdparty.any" = some none
  sup : nsIn K mainGlobals "super" = some none
  cell : ∃ cl cld csl, K.lookup cc = some ⟨cl, cld, .cell (some (.ref C)), csl⟩
  code : ∃ ccl cdd vs ccs file tf, K.lookup cda = some ⟨ccl, cdd, .fields vs, ccs⟩ ∧ vs[2]? = some (.str file tf) ∧ ((prog.main.file : Str) == file) = true
  top : (prog.main.scope.names.lookup ("super" : Str)).isSome = false
  fn : ∃ (oc : Value) (od : Option Addr) (doc pm : Value) (an : Option Addr) (ct : Value) (osl : Array (Option Value)),
    K.lookup fI = some ⟨oc, od, .func (ksFn "__init__" "NoSign.__init__" (L2.defArgs sNs) (L2.defBody sNs) (L2.defScope sNs) .none .none doc pm an (.ref cda) ct cc), osl⟩ ∧ codeIn K (.ref cda) "NoSign.__init__" = true
structure NsEnd (h h' : Heap) (x C dx : Addr) (v : Value) : Prop where
  keep : ∀ b o, b ≠ x → h.get? b = some o → h'.get? b = some o
  obj : ∃ t1, h'.get? x = some { cls := .ref C, dict := some dx, data := .fields #[.ref t1, .none, .none, .none, .bool false, .none] }
  dbig : h.objs.size ≤ dx
  dne : dx ≠ x
  ns : h'.Ns1 dx (fun y => if y = "name" then some v else none)
section
variable {prog : Program} {w : World} {A : Around} {E : Value → Shared → Prop} {R : Result → Shared → Prop} {s : Shared} {K : Frag} {mg : Str → Option Value} {C CT fI cc cda : Addr}
theorem bw_call {u x t0 : Addr} {rest : List Value} {Q : Value → Shared → Prop} {nm q : Str} {N : Addr} {bs bm : List Value} {hdct : Bool} {sn : List Str} {sub : List Value} {ab : Bool} {col : Option Bool} {dd : Option Addr} {k0 k1 k2 k3 k5 : Option Value}
    (hC : s.heap.get? C = some (excClassObj nm q C N bs bm hdct sn sub ab col dd k0 k1 k2 k3 k5 "ValueError.__new__")) (hx : s.heap.get? x = some (excO C t0)) (hu : s.heap.get? u = some (kxs_mw "ValueError.__init__" x)) (hz : rest.length ≤ sizeLine)
    (hq : ∀ h' t1, (∀ b o, b ≠ x → s.heap.get? b = some o → h'.get? b = some o) → h'.get? x = some (excO C t1) → Q .none { s with heap := h' }) :
    wpAny (model prog w) A (call (.ref u) rest) Q E s := by
  obtain ⟨hh, g, d, tk, os⟩ := s
  refine wpAny_call (codeAny_of_tree ?_)
  show wpAny _ A.in1 (callAny (.ref u) ⟨rest, []⟩) _ _ _
  simp only [callAny]
  refine wpAny_bind (wpAny_load hu ?_)
  simp only [kxs_mw, show (Value.type "method-wrapper" == Value.type "method" || Value.type "method-wrapper" == Value.type "builtin_function_or_method" || Value.type "method-wrapper" == Value.type "method-wrapper") = true by decide, if_true]
  refine KFB.if_so (by decide) ?_
  refine wpAny_bind (check_bound_init PySem.F.excBase_ValueError.toExcCallFacts hC hx rfl ?_)
  refine wpAny_bind (wpAny_pure (wpAny_pure ?_))
  refine ⟨plainId_quiet PySem.F.excBase_ValueError.init.plain _, codeAny_builtin PySem.F.excBase_ValueError.initEntry ?_⟩
  exact exc_init_tree (cls := .ref C) (t0 := t0) (dv := none) (c2 := .none) (c3 := .none) (b4 := .bool false) hx hz (fun h' k e' _ => hq h' _ k e')
theorem ns_init (T : NsTxt prog K C CT fI cc cda) {x t0 : Addr} {v : Value} {mb : Str → Option Value} (X : K.In s.heap) (G : s.heap.Ns mainGlobals mg) (GB : s.heap.Ns builtinsNs mb) (hB : ∀ y : Str, y ≠ "__name__" → mb y = bootBuiltins y) (hlim : s.heap.NoLimit) (hx : s.heap.get? x = some (excO C t0)) (hnx : K.lookup x = none) (hroom : A.depth < recursionLimit)
    (hq : ∀ h' tk dx, NsEnd s.heap h' x C dx v → R (.ok (.ret .none)) { s with heap := h', toks := tk }) :
    codeAny (model prog w) A (.call (.ref fI) ⟨[.ref x, v], []⟩) R s := by
  obtain ⟨oc, od, doc, pm, an, ct, osl, ho, hcd⟩ := T.fn
  obtain ⟨nm, q, N, bs, bm, sn, sub, ab, col, dd, k0, k1, k2, k3, k5, hC, hbm, hal⟩ := T.cls
  obtain ⟨cl, cld, csl, hcell⟩ := T.cell
  obtain ⟨ccl, cdd, vs, ccs, file, tf, hcode, hvs, hfile⟩ := T.code
  have hcl : clsIn K C = some { name := nm, bases := bs, mro := .ref C :: bm, ns := N, qualname := q, hasDict := true, slotNames := sn, subclasses := sub, abstract := ab, collection := col, hasDel := false } := by unfold clsIn; rw [hC] <;> rfl
  refine ks_codeAny_call_defAt (body := L2.defBody sNs) (binds := [("self", .ref x), ("name", v)]) hroom (X _ _ ho) rfl hlim (codeRec_of X hcd) rfl (BindsTo.of_eq (by first | rfl | with_unfolding_all rfl)) (show ∀ y ∈ (L2.defScope sNs).names, y.2 ≠ .cell by decide +kernel) (by first | decide | (intro y hy; simp at hy; rcases hy with rfl | rfl <;> rfl)) (fun h₁ hns k => ?_)
  have X₁ : K.In h₁ := X.keeps k
  have hx₁ := k _ _ hx
  refine ks_wpAt_execs_cons (ks_wpAt_Expr_any (ks_wpAt_MethodCall ?_))
  have hk : (L2.defScope sNs).kind = .function := rfl
  have hsup : mg "super" = none := mg_none_of X G T.sup
  have G₁ := G.keeps k
  have GB₁ := GB.keeps k
  obtain ⟨oD, hD1, hD2⟩ : ∃ oD, h₁.get? C = some oD ∧ oD.data = .cls { name := nm, bases := bs, mro := .ref C :: bm, ns := N, qualname := q, hasDict := true, slotNames := sn, subclasses := sub, abstract := ab, collection := col, hasDel := false } := ⟨_, X₁ _ _ hC, rfl⟩
  refine ks_wpAt_super_base rfl rfl (by decide) rfl (X₁ _ _ ho) rfl rfl rfl (X₁ _ _ hcode) rfl hvs hfile T.top ?_
  refine ks_loadName_global hk rfl (loadGlobal_builtin G₁ hsup GB₁ ((hB _ (by decide +kernel)).trans (by first | boot_by_name | rfl | kernel_rfl)) ⟨rfl, ?_⟩)
  refine wpAny_loadName_free hk rfl rfl ⟨_, X₁ _ _ hcell, rfl⟩ ?_
  refine wpAny_loadName_local hk rfl hns rfl ?_
  refine ks_wpAny_isType_cls hD1 hD2 ⟨rfl, ?_⟩
  refine ks_wpAny_call_super hD1 hD2 hx₁ rfl (fun c e => by cases e) (looks_mroIn X₁ T.mrC) (fun h₂ e₂ k₂ => ?_)
  have X₂ : K.In h₂ := X₁.keeps k₂
  have hx₂ := k₂ _ _ hx₁
  have I₂ : InstAt h₂ x (excO C t0) C none := ⟨hx₂, rfl, rfl, trivial⟩
  refine kxs_getMethod kxs_ValueError e₂ (looks_opaque X₂ T.opq) (l₀ := .ref C :: bm) (l := bm) (fun A Q E s k q => wpAny_bind ((looks_clsIn X₂ hcl) A _ E s k (wpAny_pure q))) (by simp [List.dropWhile_cons]) X₂ hal (I₂.type.andThen (looks_subIn X₂ T.veC)) (ks_ne X₂ I₂ hcl) (by decide) ?_
  refine kxs_callWith (i := "ValueError.__init__") (x := x) rfl (evalArgs_plain ?_)
  refine Calls.spliced_cons ?_
  show wpAny _ _ (eval (.Constant (.str "there is no sign of that name") 0 ⟨9, 25, 9, 56⟩) _) _ _ _
  refine Calls.Constant_str ?_
  show wpAny _ _ (spliced []) _ _ _
  refine Calls.spliced_nil ⟨Heap.get?_push_size _ rfl, ?_⟩
  have kp : ∀ b o, h₂.get? b = some o → (h₂.push (kxs_mw "ValueError.__init__" x)).get? b = some o := fun b o e => Heap.get?_push_of_some _ e
  refine bw_call (x := x) (t0 := t0) ((X₂.keeps kp) _ _ hC) (kp _ _ hx₂) (Heap.get?_push_size _ rfl) (by show 1 ≤ sizeLine; decide) (fun h₃ t1 k₃ hx₃ => ?_)
  have k13 : ∀ b o, b ≠ x → h₁.get? b = some o → h₃.get? b = some o := fun b o n e => k₃ b o n (kp b o (k₂ b o e))
  have X₃ : K.In h₃ := fun b o e => k₃ b o (fun z => by rw [z, hnx] at e; cases e) (kp b o (X₂ b o e))
  have nL : s.heap.objs.size ≠ x := Nat.ne_of_gt (Heap.lt_size hx)
  have hns₃ : h₃.Ns s.heap.objs.size (fun y => ([("self", .ref x), ("name", v)] : List (Str × Value)).reverse.lookup y) := by
    obtain ⟨o, es, ep, e, r⟩ := hns
    exact ⟨o, es, ep, k13 _ _ nL e, r⟩
  refine ks_wpAt_execs_cons (ks_wpAt_Assign_Attr ?_)
  have ld : ∀ {y : Str} {pos : Pos} {u : Value} {A : Around} {E : Value → Shared → Prop} {Q : Value → Shared → Prop} {g : Array GenState} {d : Drawn} {t : Nat} {os : OsState}, (callEnv (ksFn "__init__" "NoSign.__init__" (L2.defArgs sNs) (L2.defBody sNs) (L2.defScope sNs) .none .none doc pm an (.ref cda) ct cc) s.heap.objs.size fI).kindOf y = some .local →
      ([("self", .ref x), ("name", v)] : List (Str × Value)).reverse.lookup y = some u → (y == ("__debug__" : Str)) = false → Q u ⟨h₃, g, d, t, os⟩ →
      wpAny (model prog w) A (eval (.Name y pos) (callEnv (ksFn "__init__" "NoSign.__init__" (L2.defArgs sNs) (L2.defBody sNs) (L2.defScope sNs) .none .none doc pm an (.ref cda) ct cc) s.heap.objs.size fI)) Q E ⟨h₃, g, d, t, os⟩ :=
    fun h1 h2 h3 hQ => wpAny_Name (wpAny_loadName_local hk h1 hns₃ h2 hQ) h3
  refine wpAt_of_wpAny (ld rfl rfl (by decide) ?_)
  refine ld rfl rfl (by decide) ?_
  refine set_plain X₃ (ox := excO C t1) (od := none) ⟨hx₃, rfl, rfl, trivial⟩ T.sa ?_
  refine exc_osa X₃ hx₃ hcl (show refsVE (.ref C :: bm) = true from hbm) rfl T.noN (fun h₄ tk₄ dx k₄ dn dne hx₄ hn₄ => ?_)
  refine wpAt_of_wpAny (wpAny_execs_nil (hq h₄ tk₄ dx ⟨fun b o hb e => k₄ b o hb (k13 b o hb (k b o e)), ⟨t1, hx₄⟩, ?_, dne, hn₄⟩))
  have z0 : s.heap.objs.size < h₃.objs.size := hns₃.lt
  exact Nat.le_of_lt (Nat.lt_of_lt_of_le z0 dn)
/-- a made error with its name -/
structure NsMade (h h' : Heap) (e C d : Addr) (v : Value) : Prop where
  keep : ∀ b o, h.get? b = some o → h'.get? b = some o
  new : h.objs.size ≤ e
  obj : ∃ oe vs, h'.get? e = some oe ∧ oe.cls = .ref C ∧ oe.dict = some d ∧ oe.data = .fields vs ∧ vs[1]? = some .none
  dbig : h.objs.size ≤ d
  dne : d ≠ e
  ns : h'.Ns1 d (fun y => if y = "name" then some v else none)
theorem ns_made (T : NsTxt prog K C CT fI cc cda) {v : Value} {mb : Str → Option Value} (X : K.In s.heap) (G : s.heap.Ns mainGlobals mg) (GB : s.heap.Ns builtinsNs mb) (hB : ∀ y : Str, y ≠ "__name__" → mb y = bootBuiltins y) (hlim : s.heap.NoLimit) (hroom : A.depth + 1 < recursionLimit)
    (hq : ∀ h' tk e d, NsMade s.heap h' e C d v → R (.ok (.ret (.ref e))) { s with heap := h', toks := tk }) :
    codeAny (model prog w) A (.call (.ref C) ⟨[v], []⟩) R s := by
  obtain ⟨nm, q, N, bs, bm, sn, sub, ab, col, dd, k0, k1, k2, k3, k5, hC, hbm, hal⟩ := T.cls
  obtain ⟨hp, g, dr, tk, os⟩ := s
  have kk : ∀ b o, hp.get? b = some o → ((hp.push (kdv_tup [v])).push (excO C hp.objs.size)).get? b = some o := fun b o e => Heap.get?_push_of_some _ (Heap.get?_push_of_some _ e)
  have hgt : ((hp.push (kdv_tup [v])).push (excO C hp.objs.size)).get? (hp.objs.size + 1) = some (excO C hp.objs.size) := by heap_get
  have hnx : K.lookup (hp.objs.size + 1) = none := by
    cases e : K.lookup (hp.objs.size + 1) with
    | none => rfl
    | some o =>
      have z : hp.get? (hp.objs.size + 1) = some o := X _ _ e
      exact absurd (Nat.lt_of_succ_lt (Heap.lt_size z)) (Nat.lt_irrefl _)
  refine call_own PySem.F.excBase_ValueError (fun Y => refsVE_contains Y bm hbm) (X _ _ hC) (looks_findIn X T.iC) (fun self => bind_fn X self T.tC) (by show 1 ≤ sizeLine; decide) ?_
  refine ns_init (s := ⟨(hp.push (kdv_tup [v])).push (excO C hp.objs.size), g, dr, tk, os⟩) T (X.keeps kk) (G.keeps kk) (GB.keeps kk) hB (hlim.keeps kk) hgt hnx ?_ fun h' tk' dx ⟨k', ⟨t1, hx⟩, dn, dne, hns⟩ => ?_
  · show A.depth + 1 < recursionLimit
    exact hroom
  · have old : ∀ b o, hp.get? b = some o → h'.get? b = some o := fun b o e => k' b o (Nat.ne_of_lt (Nat.lt_succ_of_lt (Heap.lt_size e))) (kk b o e)
    have z : hp.objs.size + 1 + 1 ≤ dx := by
      first
        | (simpa only [Heap.size_push] using dn)
        | exact dn
        | (have q := dn; rw [Heap.size_push, Heap.size_push] at q; exact q)
    exact ⟨rfl, hq h' tk' (hp.objs.size + 1) dx ⟨old, Nat.le_succ _, ⟨_, _, hx, rfl, rfl, rfl, rfl⟩, Nat.le_trans (Nat.le_trans (Nat.le_succ _) (Nat.le_succ _)) z, dne, hns⟩⟩
end
end NsX
end PySem
namespace K1
open PySem PySem.Spec PyProof.Rows L2
theorem relO_ns {v : V} {v' : Value} (r : RelV v v') (f : Str) : RelO (List.lookup f [(("name" : Str), v)]) (if f = "name" then some v' else none) := by
  by_cases hw : f = "name"
  · subst hw
    rw [if_pos rfl, show List.lookup ("name" : Str) [(("name" : Str), v)] = some v by simp [List.lookup]]
    exact r
  · rw [if_neg hw, show List.lookup f [(("name" : Str), v)] = none by simp [List.lookup, show (f == ("name" : Str)) = false by simpa using hw]]
    trivial
section
variable {X : Cx} {C CT fI cc cda : Addr}
/-- NoSign(e) -/
def tMkNs (C : Addr) (ta : TA) : L2.St → Hp → XK → Prop := fun σ H Q => ta σ H fun vs H1 => ∃ v, vs = [v] ∧ ∀ d, H1 d = none → Q (.ref C) (some d) (upd H1 d (.xd [(("name" : Str), v)]))
theorem pmk_ns {a : Expr} {ta : TA} {p pos : Pos} {k : Nat} (T : PySem.NsX.NsTxt X.prog X.K C CT fI cc cda) (gC : X.mg "NoSign" = some (.ref C)) (hr : Room k X.A) (ha : PA X [a] ta) (hg : Gl X "NoSign" := by rfl)
    (he : starEach (a :: []) X.env = (false, eval a X.env) :: starEach [] X.env := by rfl) (hpl : (backTo pos (starEach [] X.env)).any (·.1) = false := by rfl) :
    PMk X (.Call (.Name "NoSign" p) [a] [] pos) (tMkNs C ta) := by
  intro pins s σ H Q I h
  refine wpAny_Call_Name_kw (ld_glob I hg gC ?_)
  refine PySem.W.callWith_K (h₀ := X.base) I.ok.mod.kin T.kC (thn (ha.run pos pins s σ H _ I h) fun us s1 hh => ?_) he hpl
  obtain ⟨vs, H1, I1, r1, v, ev, q1⟩ := hh
  subst ev
  refine ⟨I1.kIn, ?_⟩
  cases r1 with
  | cons rv rn =>
    rename_i v' us'
    cases rn
    show wpAny _ _ (call (.ref C) [v']) _ _ _
    have hlim := I1.nolimit
    obtain ⟨mb, hb1, hb2⟩ := I1.mod.blt
    have hgl := I1.mod.glob.keeps I1.bk
    have hbl := hb1.keeps I1.bk
    have hk := I1.kIn
    obtain ⟨hp, g, dr, tk, os⟩ := s1
    refine wpAny_call (PySem.NsX.ns_made T hk hgl hbl hb2 hlim (by have := hr.dp; omega) fun h' tk' e d M => ?_)
    show MkP X pins σ Q (.ref e) ⟨h', g, dr, tk', os⟩
    obtain ⟨oe, fv, hoe, hc, hd, hdat, h1⟩ := M.obj
    have hns := M.ns
    obtain ⟨G', g1, g2⟩ := restrict h' fun b => decide (b ≠ e)
    have gk : ∀ b, b ≠ e → G'.get? b = h'.get? b := fun b hb => g1 b (decide_eq_true hb)
    have ge : G'.get? e = none := g2 e (by simp)
    have old : ∀ b o, hp.get? b = some o → G'.get? b = some o := fun b o q => (gk b (Nat.ne_of_lt (Nat.lt_of_lt_of_le (Heap.lt_size q) M.new))).trans (M.keep b o q)
    have ob : ObjOk X.prog X.w (upd H1 d (.xd [(("name" : Str), v)])) G' d (.xd [(("name" : Str), v)]) :=
      ⟨_, hns.at (fun o q => (gk d M.dne).trans q), fun f => relO_ns rv f⟩
    have J : Inv X pins σ (upd H1 d (.xd [(("name" : Str), v)])) ⟨G', g, dr, tk', os⟩ := I1.laid (t' := tk') old M.dbig ob
    refine ⟨e, oe, fv, ⟨G', g, dr, tk', os⟩, _, .ref C, some d, rfl, J, fun b o q => ?_, ge, hoe, ⟨hc, hd⟩, hdat, h1, ?_, rfl, I1.bare, raises_own T.exC T.tyC, q1 d (I1.hok.fresh M.dbig)⟩
    · by_cases hb : b = e
      · have q' : G'.get? b = some o := q
        rw [hb, ge] at q'
        cases q'
      · exact (gk b hb).symm.trans q
    · rw [upd_ne (Ne.symm M.dne)]
      exact I1.hok.fresh M.new
end
end K1
set_option Elab.async false
set_option linter.all false
set_option maxRecDepth 100000
set_option maxHeartbeats 4000000
namespace K1
open PySem PySem.Spec PyProof.Rows L2
/-- a method by its name -/
structure Mt (P : Program) (w : World) (K : PySem.W.Frag) (mg : Str → Option Value) (base : Heap) (CX : CXT) (C : Addr) (m : Str) (k : Nat) (ps : List Str) (sp : Sp) : Prop where
  ex : ∃ (f : Addr) (fd : FuncData), FnOk P w K mg base CX k f fd ps sp ∧ Meth K C m f ∧ Binds K fd ps []
def hasD (ns : List Str) : PyData → Bool
  | .str s => decide (s ∈ ns)
  | _ => false
def spRows (K : PySem.W.Frag) (C : Addr) : Sp := fun vs H Q _ => ∃ (p rt td : Addr) (xs : List V) (ns : List Str), vs = [.ref p] ∧ SgAt K C H p rt td xs ns ∧ ∀ l, H l = none → Q (.ref l) (upd H l (.lst xs))
def spHas (K : PySem.W.Frag) (C : Addr) : Sp := fun vs H Q _ => ∃ (p rt td : Addr) (xs : List V) (ns : List Str) (v : V) (d : PyData), vs = [.ref p, v] ∧ SgAt K C H p rt td xs ns ∧ Dm K H v d ∧ Q (.bl (hasD ns d)) H
/-- kind (i = 1), many (i = 2) -/
def spAt (K : PySem.W.Frag) (C CS : Addr) (i : Nat) : Sp := fun vs H Q E => ∃ (p rt td : Addr) (xs : List V) (ns : List Str) (v : V) (d : PyData), vs = [.ref p, v] ∧ SgAt K C H p rt td xs ns ∧ Dm K H v d ∧
  (hasD ns d = true → ∀ s, v = .str s → ∃ (b : Addr) (ys : List V) (y : V), valV (kvsOf ns xs) (Sum.inr s : Key) = some (.ref b) ∧ SqT K H b ys ∧ ys[i]? = some y ∧ Q y H) ∧
  (hasD ns d = false → ∀ dd, H dd = none → E (.ref CS) (some dd) (upd H dd (.xd [(("name" : Str), v)])))
def spLen (K : PySem.W.Frag) (C : Addr) : Sp := fun vs H Q _ => ∃ (p rt td : Addr) (xs : List V) (ns : List Str), vs = [.ref p] ∧ SgAt K C H p rt td xs ns ∧ Q (.int xs.length) H
/-- what isinstance(x, Signs) asks -/
structure SgI (K : PySem.W.Frag) (C : Addr) : Prop where
  ha : PySem.W.findIn K (.ref C) "__class__" = some (some (.builtin "object.__class__"))
  hn : PySem.W.specialIn K (.builtin "object.__class__") "__get__" = some (some (.builtin "getset_descriptor.__get__"))
  htk : PySem.W.takesIn K (.builtin "object.__class__") = some true
  hm : PySem.W.mroIn K C (.type "object") = some true
  own : PySem.W.kitOne K (.ref C) (.ref C) = some true
  tNone : PySem.W.kitOne K (.type "NoneType") (.ref C) = some false
  tBool : PySem.W.kitOne K (.type "bool") (.ref C) = some false
  tInt : PySem.W.kitOne K (.type "int") (.ref C) = some false
  tStr : PySem.W.kitOne K (.type "str") (.ref C) = some false
  tList : PySem.W.kitOne K (.type "list") (.ref C) = some false
  tTup : PySem.W.kitOne K (.type "tuple") (.ref C) = some false
  tDict : PySem.W.kitOne K (.type "dict") (.ref C) = some false
theorem SgI.no {K : PySem.W.Frag} {C : Addr} (I : SgI K C) : ∀ d : PyData, PySem.W.kitOne K (.type (tyOf d)) (.ref C) = some false
  | .none => I.tNone
  | .bool _ => I.tBool
  | .int _ => I.tInt
  | .str _ => I.tStr
  | .list _ => I.tList
  | .tuple _ => I.tTup
  | .dict _ => I.tDict
/-- == with data | with signs -/
def spSame (K : PySem.W.Frag) (C : Addr) : Sp := fun vs H Q _ => ∃ (p rt td : Addr) (xs : List V) (ns : List Str) (w : V), vs = [.ref p, w] ∧ SgAt K C H p rt td xs ns ∧
  ((∃ d, Dm K H w d ∧ Q (.bl false) H) ∨
    ∃ (p2 rt2 td2 : Addr) (xs2 : List V) (ns2 : List Str) (ds ds2 : List PyData), w = .ref p2 ∧ SgAt K C H p2 rt2 td2 xs2 ns2 ∧ DpAll K H xs ds ∧ DpAll K H xs2 ds2 ∧ SeqAt.shaped (.tuple ds) = true ∧ SeqAt.shaped (.tuple ds2) = true ∧ Q (.bl (PyData.eqv (.tuple ds) (.tuple ds2))) H)
section
variable {P : Program} {w : World} {K : PySem.W.Frag} {mg : Str → Option Value} {base : Heap}
theorem scRows : FnScope ["self"] ["self"] (defScope sRows) := ⟨rfl, rfl, rfl, by decide +kernel, rfl, by decide +kernel, by decide +kernel⟩
theorem ok_rows {f C : Addr} {fd : FuncData} (F : Fun K "rows" "Signs.rows" sRows f fd) (T : Cs mg) (G : SgC K C) : FnOk P w K mg base CX0 1 f fd ["self"] (spRows K C) := by
  refine F.ok scRows (fun vs H Q E h => ?_) (fun cdv A outer s H vs Q E hr h => ?_)
  · obtain ⟨p, rt, td, xs, ns, rfl, _⟩ := h
    rfl
  · obtain ⟨p, rt, td, xs, ns, rfl, S, k⟩ := h
    obtain ⟨⟨dx, hp⟩, hrt, htd, _⟩ := S
    refine ⟨_, pss_one (ps_ret (pe_callTy call_list_of (by rfl) T.list boot_list (pa_cons (pe_fld (pv 0) rfl) pa_nil))), ?_⟩
    exact ⟨_, rfl, p, C, dx, _, _, rfl, hp, G.cl, G.nR, sgF_rows rt td, rt, xs, rfl, .inr hrt, k⟩
theorem scHas : FnScope ["self", "name"] ["self", "name"] (defScope sHas) := ⟨rfl, rfl, rfl, by decide +kernel, rfl, by decide +kernel, by decide +kernel⟩
theorem ok_has {f C : Addr} {fd : FuncData} (F : Fun K "has" "Signs.has" sHas f fd) (T : Cs mg) (G : SgC K C) : FnOk P w K mg base CX0 1 f fd ["self", "name"] (spHas K C) := by
  refine F.ok scHas (fun vs H Q E h => ?_) (fun cdv A outer s H vs Q E hr h => ?_)
  · obtain ⟨p, rt, td, xs, ns, v, d, rfl, _⟩ := h
    rfl
  · obtain ⟨p, rt, td, xs, ns, v, d, rfl, S, hd, k⟩ := h
    obtain ⟨⟨dx, hp⟩, hrt, htd, hl, _⟩ := S
    have hu' := hu_of hr
    refine ⟨_, pss_one (ps_ret (pe_and (pe_callB call_isi (by rfl) T.isi boot_isinstance (pa_cons (pv 1) (pa_cons (pe_bltn (v := .ty "str") (by rfl) T.str boot_str rfl) pa_nil)))
      (pe_one (pe_cmp (pc_din hu' (pv 1) (pe_fld (pv 0) rfl)))))), ?_⟩
    refine ⟨_, rfl, _, _, _, _, _, rfl, .ty "str", tyx_of hd, kit_str d, _, rfl, ?_⟩
    cases d with
    | str s =>
      have ev : v = .str s := by
        cases hd with
        | dat h => cases h; rfl
      subst ev
      refine ⟨_, rfl, _, rfl, p, C, dx, _, _, rfl, hp, G.cl, G.nT, sgF_table rt td, td, _, rfl, DGet.k (k := Sum.inr s) htd, ?_⟩
      rw [val_kvs s ns xs hl]
      exact k
    | _ => exact k
theorem scKind : FnScope ["self", "name"] ["self", "name"] (defScope sKind) := ⟨rfl, rfl, rfl, by decide +kernel, rfl, by decide +kernel, by decide +kernel⟩
theorem scMany : FnScope ["self", "name"] ["self", "name"] (defScope sMany) := ⟨rfl, rfl, rfl, by decide +kernel, rfl, by decide +kernel, by decide +kernel⟩
theorem ok_kind {f C CS CT fI cc cda : Addr} {fd : FuncData} (F : Fun K "kind" "Signs.kind" sKind f fd) (MH : Mt P w K mg base CX0 C "has" 1 ["self", "name"] (spHas K C)) (G : SgC K C) (N : PySem.NsX.NsTxt P K CS CT fI cc cda) (gN : mg "NoSign" = some (.ref CS)) : FnOk P w K mg base (L2.CX P w) 5 f fd ["self", "name"] (spAt K C CS 1) := by
  obtain ⟨fh, fdh, FH, mH, bH⟩ := MH.ex
  refine F.okX scKind (fun vs H Q E h => ?_) (fun cdv A outer s H vs Q E hr h => ?_)
  · obtain ⟨p, rt, td, xs, ns, v, d, rfl, _⟩ := h
    rfl
  · obtain ⟨p, rt, td, xs, ns, v, d, rfl, S, hd, k1, k2⟩ := h
    have hu' := hu_of hr
    refine ⟨_, pss_cons (ps_if (pt_not (pt_val (pe_meth (pv 0) G.cl mH FH (hr.mono (by decide)) bH .nil pass0 (pa_cons (pv 1) pa_nil)))) (pss_one (ps_raise rfl (takes_of rfl rfl rfl rfl) (pmk_ns N gN hr (pa_cons (pv 1) pa_nil)))) pss_nil)
      (pss_one (ps_ret (pe_ix ix_tup (pe_dget hu' (pe_fld (pv 0) rfl) (pv 1) (fun _ _ => rfl)) pe_int (fun _ _ => rfl)))), ?_⟩
    obtain ⟨⟨dx, hp⟩, hrt, htd, hl, _⟩ := id S
    refine ⟨_, rfl, p, dx, _, rfl, hp, sgF_no rt td (by decide +kernel) (by decide +kernel), _, rfl, p, rt, td, xs, ns, v, d, rfl, S, hd, _, rfl, ?_⟩
    refine ite2 (fun h0 => ?_) (fun h0 => ?_)
    · exact ⟨_, rfl, _, rfl, fun dd hdd => k2 (by simpa using h0) dd hdd⟩
    · have h1 : hasD ns d = true := by
        have h2 : ¬ (!hasD ns d) = true := h0
        simpa using h2
      cases d with
      | str s =>
        have ev : v = .str s := by
          cases hd with
          | dat h => cases h; rfl
        subst ev
        obtain ⟨b, ys, y, hv, hb, hy, q⟩ := k1 h1 s rfl
        refine ⟨_, rfl, p, C, dx, _, _, rfl, hp, G.cl, G.nT, sgF_table rt td, _, rfl, td, .ref b, rfl, ?_, b, ys, 1, y, rfl, rfl, hb, atI_nat (j := 1) hy, q⟩
        rw [← hv]
        exact DGet.k (k := Sum.inr s) htd
      | _ => cases h1
theorem ok_many {f C CS CT fI cc cda : Addr} {fd : FuncData} (F : Fun K "many" "Signs.many" sMany f fd) (MH : Mt P w K mg base CX0 C "has" 1 ["self", "name"] (spHas K C)) (G : SgC K C) (N : PySem.NsX.NsTxt P K CS CT fI cc cda) (gN : mg "NoSign" = some (.ref CS)) : FnOk P w K mg base (L2.CX P w) 5 f fd ["self", "name"] (spAt K C CS 2) := by
  obtain ⟨fh, fdh, FH, mH, bH⟩ := MH.ex
  refine F.okX scMany (fun vs H Q E h => ?_) (fun cdv A outer s H vs Q E hr h => ?_)
  · obtain ⟨p, rt, td, xs, ns, v, d, rfl, _⟩ := h
    rfl
  · obtain ⟨p, rt, td, xs, ns, v, d, rfl, S, hd, k1, k2⟩ := h
    have hu' := hu_of hr
    refine ⟨_, pss_cons (ps_if (pt_not (pt_val (pe_meth (pv 0) G.cl mH FH (hr.mono (by decide)) bH .nil pass0 (pa_cons (pv 1) pa_nil)))) (pss_one (ps_raise rfl (takes_of rfl rfl rfl rfl) (pmk_ns N gN hr (pa_cons (pv 1) pa_nil)))) pss_nil)
      (pss_one (ps_ret (pe_ix ix_tup (pe_dget hu' (pe_fld (pv 0) rfl) (pv 1) (fun _ _ => rfl)) pe_int (fun _ _ => rfl)))), ?_⟩
    obtain ⟨⟨dx, hp⟩, hrt, htd, hl, _⟩ := id S
    refine ⟨_, rfl, p, dx, _, rfl, hp, sgF_no rt td (by decide +kernel) (by decide +kernel), _, rfl, p, rt, td, xs, ns, v, d, rfl, S, hd, _, rfl, ?_⟩
    refine ite2 (fun h0 => ?_) (fun h0 => ?_)
    · exact ⟨_, rfl, _, rfl, fun dd hdd => k2 (by simpa using h0) dd hdd⟩
    · have h1 : hasD ns d = true := by
        have h2 : ¬ (!hasD ns d) = true := h0
        simpa using h2
      cases d with
      | str s =>
        have ev : v = .str s := by
          cases hd with
          | dat h => cases h; rfl
        subst ev
        obtain ⟨b, ys, y, hv, hb, hy, q⟩ := k1 h1 s rfl
        refine ⟨_, rfl, p, C, dx, _, _, rfl, hp, G.cl, G.nT, sgF_table rt td, _, rfl, td, .ref b, rfl, ?_, b, ys, 2, y, rfl, rfl, hb, atI_nat (j := 2) hy, q⟩
        rw [← hv]
        exact DGet.k (k := Sum.inr s) htd
      | _ => cases h1
theorem scLen : FnScope ["self"] ["self"] (defScope sLen) := ⟨rfl, rfl, rfl, by decide +kernel, rfl, by decide +kernel, by decide +kernel⟩
theorem ok_len {f C : Addr} {fd : FuncData} (F : Fun K "__len__" "Signs.__len__" sLen f fd) (T : Cs mg) (G : SgC K C) : FnOk P w K mg base CX0 1 f fd ["self"] (spLen K C) := by
  refine F.ok scLen (fun vs H Q E h => ?_) (fun cdv A outer s H vs Q E hr h => ?_)
  · obtain ⟨p, rt, td, xs, ns, rfl, _⟩ := h
    rfl
  · obtain ⟨p, rt, td, xs, ns, rfl, S, k⟩ := h
    obtain ⟨⟨dx, hp⟩, hrt, htd, _⟩ := S
    refine ⟨_, pss_one (ps_ret (pe_callB call_len_seq (by rfl) T.len PySem.boot_len (pa_cons (pe_fld (pv 0) rfl) pa_nil))), ?_⟩
    exact ⟨_, rfl, p, C, dx, _, _, rfl, hp, G.cl, G.nR, sgF_rows rt td, rt, xs, rfl, .inr hrt, k⟩
theorem scEq : FnScope ["self", "other"] ["self", "other"] (defScope sEq) := ⟨rfl, rfl, rfl, by decide +kernel, rfl, by decide +kernel, by decide +kernel⟩
theorem ok_same {f C : Addr} {fd : FuncData} (F : Fun K "__eq__" "Signs.__eq__" sEq f fd) (T : Cs mg) (G : SgC K C) (GI : SgI K C) (gC : mg "Signs" = some (.ref C)) : FnOk P w K mg base CX0 1 f fd ["self", "other"] (spSame K C) := by
  refine F.ok scEq (fun vs H Q E h => ?_) (fun cdv A outer s H vs Q E hr h => ?_)
  · obtain ⟨p, rt, td, xs, ns, w, rfl, _⟩ := h
    rfl
  · obtain ⟨p, rt, td, xs, ns, w, rfl, S, k⟩ := h
    obtain ⟨⟨dx, hp⟩, hrt, htd, _⟩ := S
    refine ⟨_, pss_one (ps_ret (pe_and (pe_callB call_isi (by rfl) T.isi boot_isinstance (pa_cons (pv 1) (pa_cons (pe_glob (v := .ref C) (by rfl) gC rfl) pa_nil)))
      (pe_one (pe_cmpR (op_eqD hr.units) (pe_fld (pv 0) rfl) (pe_fld (pv 1) rfl) (nomark _))))), ?_⟩
    rcases k with ⟨d, hd, q⟩ | ⟨p2, rt2, td2, xs2, ns2, ds, ds2, rfl, ⟨⟨dx2, hp2⟩, hrt2, htd2, _⟩, h1, h2, s1, s2, q⟩
    · refine ⟨_, rfl, _, _, _, _, _, rfl, .own C, tyx_of hd, GI.no d, _, rfl, ?_⟩
      exact iteF q
    · refine ⟨_, rfl, _, _, _, _, _, rfl, .own C, .base (.ins hp2 G.cl GI.ha GI.hn GI.htk GI.hm), GI.own, _, rfl, ?_⟩
      refine iteT ?_
      exact ⟨_, rfl, p, C, dx, _, _, rfl, hp, G.cl, G.nR, sgF_rows rt td, _, rfl, p2, C, dx2, _, _, rfl, hp2, G.cl, G.nR, sgF_rows rt2 td2, .tuple ds, .tuple ds2, .tup hrt h1, .tup hrt2 h2, s1, s2, q⟩
end
end K1
set_option Elab.async false
set_option linter.all false
set_option maxRecDepth 100000
set_option maxHeartbeats 4000000
namespace K1
open PySem PySem.Spec PyProof.Rows L2
/-! ### xs.count(y), flat things -/
def rCntV (K : PySem.W.Frag) : V → List V → Hp → VK → Prop := fun x vs H Q => ∃ p xs y, x = .ref p ∧ vs = [y] ∧ SqL K H p xs ∧ flatV y = true ∧ xs.all flatV = true ∧ Q (.int ((xs.countP fun z => eqV z y : Nat) : Int)) H
theorem cnt_eqU {x : V} : ∀ {xs : List V} {us : List Value}, Vals xs us → xs.all flatV = true → us.countP (eqU x) = xs.countP fun y => eqV y x
  | _, _, .nil, _ => rfl
  | y :: xs, u :: us, .cons r t, f => by
    rw [List.all_cons, Bool.and_eq_true] at f
    rw [List.countP_cons, List.countP_cons, eqU_of r f.1, cnt_eqU t f.2]
theorem mt_countV {X : Cx} : MtR X "list.count" (rCntV X.K) := fun pins s σ H x xs v us Q I rx rxs h => by
  obtain ⟨p, zs, y, rfl, rfl, hs, fy, fz, q⟩ := h
  cases rx
  obtain ⟨u, rfl, ru⟩ := rxs.one
  obtain ⟨its, rv, ⟨⟨cls, dd, data, sl⟩, n, ho, hc, hdn, hd⟩, hlen⟩ := I.list hs
  simp only at hc hd
  subst hc hd
  refine call_meets PySem.F.slot_list_count ⟨_, ho, rfl⟩ PySem.F.entry_list_count (PySem.F.args_list_count_2 _ _)
    (SeqAt.list_countAt p its.toArray n dd sl u (eqU y)) ⟨ho, fun z hz => mem_eqAt ru fy rv fz z (by simpa using hz), ?_⟩
  refine ⟨.int ((zs.countP fun z => eqV z y : Nat) : Int), H, I.tok _, ⟨s.toks, ?_⟩, q⟩
  show Value.int ((its.toArray.toList.countP (eqU y) : Nat) : Int) s.toks = _
  rw [show its.toArray.toList = its from rfl, cnt_eqU rv fz]
/-! ### lists of texts as data -/
theorem dp_strs (K : PySem.W.Frag) (H : Hp) : ∀ ws : List Str, DpAll K H (ws.map V.str) (ws.map PyData.str)
  | [] => .nil
  | z :: r => .cons (.str z) (dp_strs K H r)
theorem lay_strs : ∀ ws : List Str, (∀ w ∈ ws, PyData.strOk w = true) → PyData.canLayAll0 (ws.map PyData.str) = true
  | [], _ => rfl
  | z :: r, h => by
    have ih := lay_strs r fun w hw => h w (List.mem_cons_of_mem _ hw)
    have hz := h z List.mem_cons_self
    simp only [List.map_cons, PyData.canLayAll0, PyData.canLay0, Bool.and_eq_true]
    exact ⟨hz, ih⟩
theorem depth_strs : ∀ ws : List Str, PyData.depthAll (ws.map PyData.str) ≤ 1
  | [] => by simp [PyData.depthAll]
  | z :: r => by
    have ih := depth_strs r
    simp [PyData.depthAll, PyData.depth] at ih ⊢
    omega
theorem shaped_strs (ws : List Str) (h : ∀ w ∈ ws, PyData.strOk w = true) : SeqAt.shaped (.list (ws.map PyData.str)) = true := by
  unfold SeqAt.shaped
  rw [Bool.and_eq_true]
  refine ⟨?_, ?_⟩
  · simpa [PyData.canLay0] using lay_strs ws h
  · have := depth_strs ws
    simp [PyData.depth]
    omega
theorem strOk_mem {z : Str} (h : PyData.strOk z = true) {c : Nat} (hc : c ∈ z.cps.toList) : PyData.strOk (mk1 c) = true := by
  have h' : z.cps.all (· < 0x110000) = true := h
  rw [Array.all_eq_true_iff_forall_mem] at h'
  have := h' c (by simpa using hc)
  show (#[c] : Array Nat).all (· < 0x110000) = true
  simpa using this
theorem ok_strOk {z : Str} (h : okD (.str z) = true) : PyData.strOk z = true := by
  have h2 : SeqAt.shaped (.str z) = true := (Bool.and_eq_true_iff.mp h).2
  simpa [PyData.canLay0] using SeqAt.canLay_of_shaped h2
theorem eqv_nil (ds : List PyData) : PyData.eqv (.list ds) (.list []) = ds.isEmpty := by
  cases ds <;> rfl
abbrev sLName : Stmt := topS 27
abbrev sLSign : Stmt := topS 31
abbrev sAreRows : Stmt := topS 32
abbrev sAreSigns : Stmt := topS 33
section
variable {P : Program} {w : World} {K : PySem.W.Frag} {mg : Str → Option Value} {base : Heap}
theorem scLName : FnScope ["_law_matter", "_law_letter"] ["_law_matter"] (defScope sLName) := ⟨rfl, rfl, rfl, by decide +kernel, rfl, by decide +kernel, by decide +kernel⟩
theorem ok_lname {f : Addr} {fd : FuncData} (F : Fun K "_law_is_name" "_law_is_name" sLName f fd) (T : Cs mg) : FnOk P w K mg base CX0 1 f fd ["_law_matter"] (spP K nameD) := by
  refine F.ok scLName (fun vs H Q E h => ?_) (fun cdv A outer s H vs Q E hr h => ?_)
  · obtain ⟨v, d, rfl, _⟩ := h
    rfl
  · obtain ⟨v, d, rfl, hd, od, k⟩ := h
    refine ⟨_, pss_cons (ps_if (PW.pt (pw_or (pt_not (pt_val (pe_callB call_isi (by rfl) T.isi boot_isinstance (pa_cons (pv 0) (pa_cons (pe_bltn (v := .ty "str") (by rfl) T.str boot_str rfl) pa_nil))))) (pw_or1 (pt_not (pt_chain op_le op_le pe_int (pe_callB call_len (by rfl) T.len PySem.boot_len (pa_cons (pv 0) pa_nil)) pe_int))))) (pss_one (ps_ret pe_bl)) pss_nil)
      (pss_one (ps_ret (pe_cmpR (op_eqD hr.units) (pe_lc (own := [("_law_letter", 1)]) (g := gName 1) rfl scLName.nd (pi_str (pv 0)) (blkOk_by (N := ["_law_matter", "_law_letter"]) (sc := defScope sLName) (by decide +kernel)) (fun _ _ _ _ _ => pg_name (i := 1) scLName.nd rfl (Or.inl rfl)) (fun _ _ _ _ _ => pts_one (pt_cmpR op_notIn_sign (pv 1) pe_str (by rfl)))
        (fun _ _ _ _ _ => pv 1)) (pe_lst pa_nil) (nomark _)))), ?_⟩
    refine ⟨_, rfl, _, _, _, _, _, rfl, .ty "str", tyx_of hd, kit_str d, _, rfl, ?_⟩
    cases d with
    | str z =>
      have ev : v = .str z := by
        cases hd with
        | dat h => cases h; rfl
      subst ev
      have hl := ok_str od
      have hq : ∀ (b : Bool) (H' : Hp), b = nameB z → Same H H' → Q (.bl b) H' := fun b H' e sm => by
        rw [e]
        exact k H' sm
      refine ⟨_, rfl, .str z, z.length, rfl, ⟨by rw [sizeLine_eq]; omega, rfl⟩, _, _, rfl, rfl, _, rfl, ?_⟩
      refine ite2 (fun h1 => ?_) (fun h1 => ?_)
      · refine ⟨_, _, rfl, rfl, _, rfl, ?_⟩
        rw [decide_eq_true_iff] at h1
        refine ite2 (fun h2 => ?_) (fun h2 => ?_)
        · have h2' : ¬ ((z.length : Int) ≤ 8) := by simpa using h2
          refine hq false H ?_ (Same.refl H)
          unfold nameB
          rw [show decide (1 ≤ z.length ∧ z.length ≤ 8) = false from decide_eq_false (by omega), Bool.false_and]
        · have h2' : (z.length : Int) ≤ 8 := by simpa using h2
          refine ⟨_, rfl, z, rfl, fun D hD => lc_it walk_str (fun i H6 => Same H H6 ∧ H6 D = some (.lst ((((z.cps.toList.take i).filter fun c => !isLow c).map mk1).map V.str))) ⟨Same.new (Same.refl H) hD, upd_same⟩ (fun _ _ _ _ => trivial) ?_ ?_⟩
          · rintro i x H6 H7 hi ⟨s6, eD⟩ ⟨rfl, ch, hch, rfl⟩
            have hch' : z.cps.toList[i]? = some ch := by rw [Array.getElem?_toList]; exact hch
            have hi' : i < z.length := hi
            refine ⟨rfl, _, rfl, ch, abc, rfl, rfl, _, rfl, ?_⟩
            rw [mem_abc]
            refine ite2 (fun h3 => ?_) (fun h3 => ?_)
            · refine ⟨_, rfl, _, eD, ?_, ?_, ?_⟩
              · rw [List.length_map, List.length_map, sizeLine_eq]
                have := List.length_filter_le (fun c => !isLow c) (z.cps.toList.take i)
                rw [List.length_take, len_toList] at this
                omega
              · exact fun b o e => by
                  rw [upd_ne (ne_of_none e hD)]
                  exact s6 b o e
              · rw [upd_same, take_snoc hch', List.filter_append, List.map_append, List.map_append, show ([ch] : List Nat).filter (fun c => !isLow c) = [ch] by simp [h3]]
                rfl
            · refine ⟨s6, ?_⟩
              rw [eD, take_snoc hch', List.filter_append, show ([ch] : List Nat).filter (fun c => !isLow c) = [] by simp [h3], List.append_nil]
          · rintro H6 ⟨s6, eD⟩
            rw [show z.cps.size = z.cps.toList.length from rfl, List.take_length] at eD
            refine ⟨(by show 0 ≤ sizeLine; decide), fun p hp => ?_⟩
            refine ⟨.list (((z.cps.toList.filter fun c => !isLow c).map mk1).map PyData.str), .list [], Dp.lst (SqL.of (Same.new (Same.refl H6) hp _ _ eD)) (dp_strs _ _ _), Dp.lst (SqL.of upd_same) .nil, shaped_strs _ (fun w hw => by
              obtain ⟨c, hc, rfl⟩ := List.mem_map.mp hw
              exact strOk_mem (ok_strOk od) (List.mem_filter.mp hc).1), by decide, ?_⟩
            refine hq _ _ ?_ (Same.new s6 hp)
            rw [eqv_nil]
            unfold nameB
            rw [show decide (1 ≤ z.length ∧ z.length ≤ 8) = true from decide_eq_true (by omega), Bool.true_and]
            rw [List.isEmpty_map, List.isEmpty_map]
            rw [Bool.eq_iff_iff, List.isEmpty_iff, List.filter_eq_nil_iff, List.all_eq_true]
            simp
      · refine ⟨_, rfl, ?_⟩
        rw [decide_eq_true_iff] at h1
        refine hq false H ?_ (Same.refl H)
        unfold nameB
        rw [show decide (1 ≤ z.length ∧ z.length ≤ 8) = false from decide_eq_false (by omega), Bool.false_and]
    | _ => exact k H (Same.refl H)
/-! ### _law_is_sign -/
theorem eqv_str_of {k : PyData} {z : Str} : PyData.eqv k (.str z) = match k with | .str y => y == z | _ => false := by
  cases k <;> rfl
theorem kinds_no {k : PyData} (h : isStr k = false) : kindsD k = false := by
  cases k <;> first | rfl | cases h
theorem signD_kstr {n k : PyData} {m : Int} (h : isStr k = false) : signD (.tuple [n, k, .int m]) = false := by
  show (nameD n && if PyData.eqv k (.str "plain") = true then decide (0 ≤ m ∧ m ≤ 4) else kindsD k && decide (m = 2)) = false
  have e : PyData.eqv k (.str "plain") = false := by cases k <;> first | rfl | cases h
  rw [e, kinds_no h, if_neg Bool.false_ne_true, Bool.false_and, Bool.and_false]
theorem inV_kinds (y : Str) : inV (.str y) [.str "pair", .str "row", .str "heap"] = kindsD (.str y) := rfl
theorem scLSign : FnScope ["_law_matter"] ["_law_matter"] (defScope sLSign) := ⟨rfl, rfl, rfl, by decide +kernel, rfl, by decide +kernel, by decide +kernel⟩
theorem ok_lsign {f : Addr} {fd : FuncData} (F : Fun K "_law_is_sign" "_law_is_sign" sLSign f fd) (DN : Df P w K mg base CX0 "_law_is_name" 1 ["_law_matter"] (spP K nameD)) (T : Cs mg) : FnOk P w K mg base CX0 3 f fd ["_law_matter"] (spP K signD) := by
  refine F.ok scLSign (fun vs H Q E h => ?_) (fun cdv A outer s H vs Q E hr h => ?_)
  · obtain ⟨v, d, rfl, _⟩ := h
    rfl
  · obtain ⟨v, d, rfl, hd, fd', k⟩ := h
    refine ⟨_, pss_cons (ps_if (PW.pt (pw_or (pt_not (pt_val (pe_callB call_isi (by rfl) T.isi boot_isinstance (pa_cons (pv 0) (pa_cons (pe_bltn (v := .ty "tuple") (by rfl) T.tuple boot_tuple rfl) pa_nil))))) (pw_or (pt_cmpR op_ne (pe_callB call_len (by rfl) T.len PySem.boot_len (pa_cons (pv 0) pa_nil)) pe_int (nomark _)) (pw_or1 (pt_not (pt_val (pe_df DN hr pass0 (pa_cons (pe_ix ix_tup (pv 0) pe_int (fun _ _ => rfl)) pa_nil)))))))) (pss_one (ps_ret pe_bl)) pss_nil)
      (pss_cons (ps_if (PW.pt (pw_or (pt_not (pt_val (pe_callB call_isi (by rfl) T.isi boot_isinstance (pa_cons (pe_ix ix_tup (pv 0) pe_int (fun _ _ => rfl)) (pa_cons (pe_bltn (v := .ty "str") (by rfl) T.str boot_str rfl) pa_nil))))) (pw_or (pt_not (pt_val (pe_callB call_isi (by rfl) T.isi boot_isinstance (pa_cons (pe_ix ix_tup (pv 0) pe_int (fun _ _ => rfl)) (pa_cons (pe_bltn (v := .ty "int") (by rfl) T.int boot_int rfl) pa_nil))))) (pw_or1 (pt_val (pe_callB call_isi (by rfl) T.isi boot_isinstance (pa_cons (pe_ix ix_tup (pv 0) pe_int (fun _ _ => rfl)) (pa_cons (pe_bltn (v := .ty "bool") (by rfl) T.bool boot_bool rfl) pa_nil)))))))) (pss_one (ps_ret pe_bl)) pss_nil)
      (pss_cons (ps_if (pt_cmpR op_eq (pe_ix ix_tup (pv 0) pe_int (fun _ _ => rfl)) pe_str (nomark _)) (pss_one (ps_ret (pe_chain op_le op_le pe_int (pe_ix ix_tup (pv 0) pe_int (fun _ _ => rfl)) pe_int))) pss_nil)
      (pss_one (ps_ret (pe_and (pe_cmpR op_in_seq (pe_ix ix_tup (pv 0) pe_int (fun _ _ => rfl)) (pe_tup (pa_cons pe_str (pa_cons pe_str (pa_cons pe_str pa_nil)))) (by rfl)) (pe_one (pe_cmpR op_eq (pe_ix ix_tup (pv 0) pe_int (fun _ _ => rfl)) pe_int (nomark _)))))))), ?_⟩
    refine ⟨_, rfl, _, _, _, _, _, rfl, .ty "tuple", tyx_of hd, kit_tup d, _, rfl, ?_⟩
    cases d with
    | tuple ds =>
      cases hd with
      | dat hd =>
        cases hd with
        | tup ht ha =>
          rename_i a xs
          have hlen := dpAll_len ha
          have hb := (ok_tup fd').1
          refine ⟨_, rfl, .ref a, ds.length, rfl, .inr ⟨xs, ht, hlen.symm⟩, rfl, _, rfl, ?_⟩
          refine ite2 (fun h3 => ?_) (fun h3 => ?_)
          · show Q (.bl false) H
            rw [show false = signD (.tuple ds) from (signD_len fun h4 => by
              rw [h4] at h3
              exact absurd h3 (by decide)).symm]
            exact k H (Same.refl H)
          · have h3' : ds.length = 3 := by
              have h4 : ¬ (!decide (V.int (ds.length : Int) = V.int 3)) = true := h3
              have h5 : V.int (ds.length : Int) = V.int 3 := by simpa using h4
              have h6 : (ds.length : Int) = 3 := V.int.inj h5
              omega
            obtain ⟨dn, dk, dm, vn, vk, vm, rfl, rfl, an, ak, am⟩ := three ha h3'
            have on := tup_at (i := 0) fd' rfl
            have hq : ∀ (b : Bool) (H' : Hp), b = signD (.tuple [dn, dk, dm]) → Same H H' → Q (.bl b) H' := fun b H' e sm => by
              rw [e]
              exact k H' sm
            refine ⟨_, rfl, a, _, 0, vn, rfl, rfl, ht, atI_nat (j := 0) rfl, vn, dn, rfl, .dat an, on.1, fun H1 s1 => ⟨_, rfl, ?_⟩⟩
            have ht1 := sqt_same s1 ht
            have ak1 := dp_same s1 _ _ ak
            have am1 := dp_same s1 _ _ am
            refine ite2 (fun hn => ?_) (fun hn => ?_)
            · exact hq false H1 (signD_name (by simpa using hn)).symm s1
            · have hn' : nameD dn = true := by
                have h0 : ¬ (!nameD dn) = true := hn
                simpa using h0
              refine ⟨_, rfl, a, _, 1, vk, rfl, rfl, ht1, atI_nat (j := 1) rfl, _, _, _, _, _, rfl, .ty "str", tyx_of (.dat ak1), kit_str dk, _, rfl, ?_⟩
              refine ite2 (fun hk => ?_) (fun hk => ?_)
              · have hk' : isStr dk = false := by simpa using hk
                refine hq false H1 ?_ s1
                cases dm with
                | int m => exact (signD_kstr hk').symm
                | _ => rfl
              · have hk' : isStr dk = true := by
                  have h0 : ¬ (!isStr dk) = true := hk
                  simpa using h0
                refine ⟨_, rfl, a, _, 2, vm, rfl, rfl, ht1, atI_nat (j := 2) rfl, _, _, _, _, _, rfl, .ty "int", tyx_of (.dat am1), kit_int dm, _, rfl, ?_⟩
                refine ite2 (fun hm => ?_) (fun hm => ?_)
                · refine hq false H1 ?_ s1
                  have hm' : isInt dm = false := by simpa using hm
                  cases dm <;> first | rfl | cases hm'
                · have hm' : isInt dm = true := by
                    have h0 : ¬ (!isInt dm) = true := hm
                    simpa using h0
                  refine ⟨_, rfl, a, _, 2, vm, rfl, rfl, ht1, atI_nat (j := 2) rfl, _, _, _, _, _, rfl, .ty "bool", tyx_of (.dat am1), kit_bool dm, _, rfl, ?_⟩
                  cases dm with
                  | int m =>
                    cases am
                    cases dk with
                    | str y =>
                      cases ak
                      refine iteF ?_
                      refine ⟨_, rfl, a, _, 1, _, rfl, rfl, ht1, atI_nat (j := 1) rfl, rfl, _, rfl, ?_⟩
                      have ee : decide (V.str y = V.str "plain") = PyData.eqv (.str y) (.str "plain") := by
                        show decide (V.str y = V.str "plain") = (y == "plain")
                        rw [Bool.beq_eq_decide_eq]
                        by_cases h : y = "plain"
                        · rw [decide_eq_true h, decide_eq_true (by rw [h])]
                        · rw [decide_eq_false h, decide_eq_false (fun z => h (V.str.inj z))]
                      rw [ee]
                      refine ite2 (fun hp => ?_) (fun hp => ?_)
                      · have es := signD_plain (k := .str y) (m := m) hn' hp
                        refine ⟨_, rfl, a, _, 2, _, rfl, rfl, ht1, atI_nat (j := 2) rfl, _, _, rfl, rfl, _, rfl, ?_⟩
                        refine ite2 (fun h1 => ?_) (fun h1 => ?_)
                        · refine ⟨_, _, rfl, rfl, hq _ H1 ?_ s1⟩
                          rw [es]
                          rw [decide_eq_true_iff] at h1
                          by_cases h2 : m ≤ 4
                          · rw [decide_eq_true h2, decide_eq_true ⟨h1, h2⟩]
                          · rw [decide_eq_false h2, decide_eq_false (fun z => h2 z.2)]
                        · refine hq _ H1 ?_ s1
                          rw [es]
                          rw [decide_eq_true_iff] at h1
                          rw [decide_eq_false (fun z => h1 z.1)]
                      · have es := signD_kind (k := .str y) (m := m) hn' hp
                        refine ⟨_, rfl, a, _, 1, _, rfl, rfl, ht1, atI_nat (j := 1) rfl, (by show 3 ≤ sizeLine; decide), fun p hp2 => ⟨p, _, rfl, .inr (SqT.of upd_same), rfl, rfl, _, rfl, ?_⟩⟩
                        have s2 := Same.new (o := .tup [.str "pair", .str "row", .str "heap"]) s1 hp2
                        refine ite2 (fun hk2 => ?_) (fun hk2 => ?_)
                        · refine ⟨_, rfl, a, _, 2, _, rfl, rfl, sqt_same s2 ht, atI_nat (j := 2) rfl, rfl, hq _ _ ?_ s2⟩
                          have hk3 : kindsD (.str y) = true := hk2
                          rw [es, hk3, Bool.true_and]
                          by_cases h2 : m = 2
                          · subst h2
                            rfl
                          · rw [decide_eq_false h2, decide_eq_false (fun z => h2 (V.int.inj z))]
                        · refine hq _ _ ?_ s2
                          have hk3 : kindsD (.str y) = false := by
                            have h0 : ¬ kindsD (.str y) = true := hk2
                            simpa using h0
                          rw [es, hk3, Bool.false_and]
                    | _ => cases hk'
                  | bool b => exact iteT (hq false H1 rfl s1)
                  | _ => cases hm'
    | _ => exact k H (Same.refl H)
end
end K1
set_option Elab.async false
set_option linter.all false
set_option maxRecDepth 100000
set_option maxHeartbeats 4000000
namespace K1
open PySem PySem.Spec PyProof.Rows L2
theorem dpAll_snoc {K : PySem.W.Frag} {H : Hp} : ∀ {vs : List V} {ds : List PyData} {v : V} {d : PyData}, DpAll K H vs ds → Dp K H v d → DpAll K H (vs ++ [v]) (ds ++ [d])
  | _, _, _, _, .nil, h => .cons h .nil
  | _, _, _, _, .cons h t, h' => .cons h (dpAll_snoc t h')
theorem lay_filter (p : PyData → Bool) : ∀ ds : List PyData, PyData.canLayAll0 ds = true → PyData.canLayAll0 (ds.filter p) = true
  | [], _ => rfl
  | d :: ds, h => by
    have h' : PyData.canLay0 d = true ∧ PyData.canLayAll0 ds = true := by simpa [PyData.canLayAll0] using h
    have ih := lay_filter p ds h'.2
    rw [List.filter_cons]
    split
    · simp only [PyData.canLayAll0, Bool.and_eq_true]
      exact ⟨h'.1, ih⟩
    · exact ih
theorem depth_filter (p : PyData → Bool) : ∀ ds : List PyData, PyData.depthAll (ds.filter p) ≤ PyData.depthAll ds
  | [] => Nat.le_refl _
  | d :: ds => by
    have ih := depth_filter p ds
    rw [List.filter_cons]
    split
    · simp only [PyData.depthAll]
      omega
    · simp only [PyData.depthAll]
      omega
theorem items_shape {d : PyData} (h : okD d = true) (hl : listD d = true) : PyData.canLayAll0 (itemsD d) = true ∧ PyData.depthAll (itemsD d) ≤ 63 := by
  cases d with
  | list ds =>
    have h3 := (ok_lst h).2.2
    have a : PyData.canLayAll0 ds = true := by simpa [PyData.canLay0] using SeqAt.canLay_of_shaped h3
    have b := SeqAt.depth_of_shaped h3
    simp only [PyData.depth] at b
    exact ⟨a, by show PyData.depthAll ds ≤ 63; omega⟩
  | tuple ds =>
    have h3 := (ok_tup h).2.2
    have a : PyData.canLayAll0 ds = true := by simpa [PyData.canLay0] using SeqAt.canLay_of_shaped h3
    have b := SeqAt.depth_of_shaped h3
    simp only [PyData.depth] at b
    exact ⟨a, by show PyData.depthAll ds ≤ 63; omega⟩
  | _ => cases hl
theorem shaped_list {ds : List PyData} (h1 : PyData.canLayAll0 ds = true) (h2 : PyData.depthAll ds ≤ 63) : SeqAt.shaped (.list ds) = true := by
  unfold SeqAt.shaped
  rw [Bool.and_eq_true, decide_eq_true_iff]
  simp only [PyData.canLay0, PyData.depth]
  exact ⟨h1, by omega⟩
theorem shaped_tuple {ds : List PyData} (h1 : PyData.canLayAll0 ds = true) (h2 : PyData.depthAll ds ≤ 63) : SeqAt.shaped (.tuple ds) = true := by
  unfold SeqAt.shaped
  rw [Bool.and_eq_true, decide_eq_true_iff]
  simp only [PyData.canLay0, PyData.depth]
  exact ⟨h1, by omega⟩
def spRowsOk (K : PySem.W.Frag) : Sp := fun vs H Q _ => ∃ (v : V) (d : PyData), vs = [v] ∧ Dm K H v d ∧ okD d = true ∧ listD d = true ∧ ∀ H', Same H H' → Q (.bl ((itemsD d).all signD)) H'
section
variable {P : Program} {w : World} {K : PySem.W.Frag} {mg : Str → Option Value} {base : Heap}
theorem scAreRows : FnScope ["_law_lines", "_law_row"] ["_law_lines"] (defScope sAreRows) := ⟨rfl, rfl, rfl, by decide +kernel, rfl, by decide +kernel, by decide +kernel⟩
theorem ok_arerows {f : Addr} {fd : FuncData} (F : Fun K "_law_are_rows" "_law_are_rows" sAreRows f fd) (DS : Df P w K mg base CX0 "_law_is_sign" 3 ["_law_matter"] (spP K signD)) : FnOk P w K mg base CX0 4 f fd ["_law_lines"] (spRowsOk K) := by
  refine F.ok scAreRows (fun vs H Q E h => ?_) (fun cdv A outer s H vs Q E hr h => ?_)
  · obtain ⟨v, d, rfl, _⟩ := h
    rfl
  · obtain ⟨v, d, rfl, hd, od, hl, k⟩ := h
    obtain ⟨a, xs, rfl, hS, hA⟩ := seq_of hd hl
    have hlen := dpAll_len hA
    obtain ⟨l1, ok1⟩ := items_ok od hl
    obtain ⟨i1, i2⟩ := items_shape od hl
    refine ⟨_, pss_one (ps_ret (pe_cmpR (op_eqD hr.units) (pe_lc (own := [("_law_row", 1)]) (g := gName 1) (tt := tNot (tB (tCall (spP K signD) [] E0 (tCons (tVar 1) tNil)))) rfl scAreRows.nd (pi_seq (pv 0)) (blkOk_by (N := ["_law_lines", "_law_row"]) (sc := defScope sAreRows) (by decide +kernel)) (fun _ _ _ _ _ => pg_name (i := 1) scAreRows.nd rfl (Or.inl rfl))
      (fun _ _ _ _ _ => pts_one (pt_not (pt_val (pe_df DS hr pass0 (pa_cons (pv 1) pa_nil))))) (fun _ _ _ _ _ => pv 1)) (pe_lst pa_nil) (nomark _))), ?_⟩
    refine ⟨_, rfl, a, xs, rfl, hS, fun J G hG hW => fun D hD => lc_it hW (fun i H6 => Same H H6 ∧ ∃ vs, H6 D = some (.lst vs) ∧ DpAll K H vs (((itemsD d).take i).filter fun e => !signD e)) ⟨Same.new (Same.refl H) hD, [], upd_same, .nil⟩ (fun i H6 _ ⟨z, _⟩ => hG H6 (fun q => z.seq q) (fun q => sqt_same z q)) ?_ ?_⟩
    · rintro i x H6 H7 hi ⟨s6, vs, eD, hV⟩ ⟨rfl, hx⟩
      obtain ⟨di, hdi, hx'⟩ := dp_at' hA hx
      have hi2 := (List.getElem?_eq_some_iff.mp hdi).1
      refine ⟨rfl, _, rfl, x, di, rfl, .dat (dp_same s6 _ _ hx'), (ok1 i di hdi).1, fun H8 s8 => ⟨_, rfl, ?_⟩⟩
      have s68 := s6.trans s8
      refine ite2 (fun h => ?_) (fun h => ?_)
      · refine ⟨_, rfl, _, s8 _ _ eD, ?_, ?_, _, upd_same, ?_⟩
        · have := dpAll_len hV
          rw [this, sizeLine_eq]
          have := List.length_filter_le (fun e => !signD e) ((itemsD d).take i)
          rw [List.length_take] at this
          omega
        · exact fun b o e => by
            rw [upd_ne (ne_of_none e hD)]
            exact s68 b o e
        · rw [take_snoc hdi, List.filter_append, show ([di] : List PyData).filter (fun e => !signD e) = [di] by simp [h]]
          exact dpAll_snoc hV hx'
      · refine ⟨s68, vs, s8 _ _ eD, ?_⟩
        rw [take_snoc hdi, List.filter_append, show ([di] : List PyData).filter (fun e => !signD e) = [] by simp [h], List.append_nil]
        exact hV
    · rintro H6 ⟨s6, vs, eD, hV⟩
      rw [hlen, List.take_length] at hV
      refine ⟨(by show 0 ≤ sizeLine; decide), fun p hp => ⟨.list ((itemsD d).filter fun e => !signD e), .list [], Dp.lst (SqL.of (Same.new (Same.refl H6) hp _ _ eD)) (dp_sameAll (Same.new s6 hp) _ _ hV), Dp.lst (SqL.of upd_same) .nil, shaped_list (lay_filter _ _ i1) (Nat.le_trans (depth_filter _ _) i2), by decide, ?_⟩⟩
      have e : PyData.eqv (.list ((itemsD d).filter fun e => !signD e)) (.list []) = (itemsD d).all signD := by
        rw [eqv_nil, Bool.eq_iff_iff, List.isEmpty_iff, List.filter_eq_nil_iff, List.all_eq_true]
        simp
      show Q (.bl (PyData.eqv _ _)) _
      rw [e]
      exact k _ (Same.new s6 hp)
/-! ### _law_are_signs -/
theorem go_of : ∀ (ds : List PyData) (seen : List Str), (∀ d ∈ ds, signD d = true) → (seen ++ ds.map nameOf).Nodup → goRows ds seen = true
  | [], _, _, _ => rfl
  | d :: ds, seen, h, hn => by
    have hn' : ((seen ++ [nameOf d]) ++ ds.map nameOf).Nodup := by
      rw [List.append_assoc]
      exact hn
    have ih := go_of ds (seen ++ [nameOf d]) (fun e he => h e (List.mem_cons_of_mem _ he)) hn'
    have hni : nameOf d ∉ seen := fun hm => by
      rw [List.nodup_append] at hn
      exact hn.2.2 _ hm _ List.mem_cons_self rfl
    show (signD d && (!decide (nameOf d ∈ seen) && goRows ds (seen ++ [nameOf d]))) = true
    rw [h d List.mem_cons_self, ih, decide_eq_false hni]
    rfl
theorem go_eq (ds : List PyData) : goRows ds [] = (ds.all signD && decide ((ds.map nameOf).Nodup)) := by
  rw [Bool.eq_iff_iff, Bool.and_eq_true, List.all_eq_true, decide_eq_true_iff]
  constructor
  · intro h
    exact ⟨go_all ds [] h, by simpa using go_nd ds [] h List.nodup_nil⟩
  · rintro ⟨h1, h2⟩
    exact go_of ds [] h1 (by simpa using h2)
theorem cnt_strs (x : Str) : ∀ ws : List Str, ((ws.map V.str).countP fun z => eqV z (.str x)) = ws.countP fun z => decide (z = x)
  | [] => rfl
  | y :: r => by
    have ih := cnt_strs x r
    rw [List.map_cons, List.countP_cons, List.countP_cons, ih]
    have e : eqV (.str y) (.str x) = decide (y = x) := by
      show (y == x) = decide (y = x)
      rw [Bool.beq_eq_decide_eq]
    rw [e]
theorem cnt_pos {x : Str} {ws : List Str} (h : x ∈ ws) : 1 ≤ ws.countP fun z => decide (z = x) := List.countP_pos_iff.mpr ⟨x, h, by simp⟩
theorem nodup_cnt : ∀ ws : List Str, ws.Nodup ↔ ∀ x ∈ ws, (ws.countP fun z => decide (z = x)) ≤ 1
  | [] => by simp
  | y :: r => by
    have ih := nodup_cnt r
    rw [List.nodup_cons, ih]
    constructor
    · rintro ⟨hn, h⟩ x hx
      rw [List.countP_cons]
      rcases List.mem_cons.mp hx with rfl | hx
      · have : (r.countP fun z => decide (z = x)) = 0 := by
          rw [List.countP_eq_zero]
          intro z hz
          simp
          rintro rfl
          exact hn hz
        rw [this]
        simp
      · have hne : ¬ y = x := fun e => hn (e ▸ hx)
        have := h x hx
        simpa [hne] using this
    · intro h
      refine ⟨fun hm => ?_, fun x hx => ?_⟩
      · have := h y List.mem_cons_self
        rw [List.countP_cons] at this
        have hp := cnt_pos hm
        simp only [decide_true, if_true] at this
        omega
      · have := h x (List.mem_cons_of_mem _ hx)
        rw [List.countP_cons] at this
        omega
theorem scAreSigns : FnScope ["_law_matter", "_law_words_here", "_law_row", "_law_word"] ["_law_matter"] (defScope sAreSigns) := ⟨rfl, rfl, rfl, by decide +kernel, rfl, by decide +kernel, by decide +kernel⟩
theorem ok_aresigns {f : Addr} {fd : FuncData} (F : Fun K "_law_are_signs" "_law_are_signs" sAreSigns f fd) (DR : Df P w K mg base CX0 "_law_are_rows" 4 ["_law_lines"] (spRowsOk K)) (T : Cs mg) : FnOk P w K mg base CX0 5 f fd ["_law_matter"] (spP K signsD) := by
  refine F.ok scAreSigns (fun vs H Q E h => ?_) (fun cdv A outer s H vs Q E hr h => ?_)
  · obtain ⟨v, d, rfl, _⟩ := h
    rfl
  · obtain ⟨v, d, rfl, hd, od, k⟩ := h
    refine ⟨_, pss_cons (ps_if (PW.pt (pw_or (pt_not (pt_val (pe_callB call_isiT (by rfl) T.isi boot_isinstance (pa_cons (pv 0) (pa_cons (pe_tup (pa_cons (pe_bltn (v := .ty "list") (by rfl) T.list boot_list rfl) (pa_cons (pe_bltn (v := .ty "tuple") (by rfl) T.tuple boot_tuple rfl) pa_nil))) pa_nil))))) (pw_or1 (pt_not (pt_chain op_le op_le pe_int (pe_callB call_len (by rfl) T.len PySem.boot_len (pa_cons (pv 0) pa_nil)) pe_int))))) (pss_one (ps_ret pe_bl)) pss_nil)
      (pss_cons (ps_if (pt_not (pt_val (pe_df DR hr pass0 (pa_cons (pv 0) pa_nil)))) (pss_one (ps_ret pe_bl)) pss_nil)
      (pss_cons (ps_set (i := 1) scAreSigns.nd rfl (Or.inr rfl) (pe_lc (own := [("_law_row", 2)]) (g := gName 2) (tt := tYes) (te := tOp (rIxT K) (tVar 2) (tC (.int 0))) rfl scAreSigns.nd (pi_seq (pv 0)) (blkOk_by (N := ["_law_matter", "_law_words_here", "_law_row", "_law_word"]) (sc := defScope sAreSigns) (by decide +kernel)) (fun _ _ _ _ _ => pg_name (i := 2) scAreSigns.nd rfl (Or.inl rfl))
        (fun _ _ _ _ _ => pts_nil) (fun _ _ _ _ _ => pe_ix ix_tup (pv 2) pe_int (fun _ _ => rfl))))
      (pss_one (ps_ret (pe_cmpR (op_eqD hr.units) (pe_lc (own := [("_law_word", 3)]) (g := gName 3) (tt := tTest (tOp (rI0 fun i j => .bl (decide (j < i))) (tBM K "list" (rCntV K) (tVar 1) (tCons (tVar 3) tNil)) (tC (.int 1)))) rfl scAreSigns.nd (pi_list (pv 1)) (blkOk_by (N := ["_law_matter", "_law_words_here", "_law_row", "_law_word"]) (sc := defScope sAreSigns) (by decide +kernel)) (fun _ _ _ _ _ => pg_name (i := 3) scAreSigns.nd rfl (Or.inl rfl))
        (fun _ _ _ _ _ => pts_one (pt_cmpR op_gt (pe_bm PySem.F.plainAttrs_list PySem.F.slot_list_count PySem.F.type_list_count mt_countV (pv 1) (pa_cons (pv 3) pa_nil)) pe_int (nomark _))) (fun _ _ _ _ _ => pv 3)) (pe_lst pa_nil) (nomark _)))))), ?_⟩
    have hq : ∀ (b : Bool) (H' : Hp), b = signsD d → Same H H' → Q (.bl b) H' := fun b H' e sm => by
      rw [e]
      exact k H' sm
    refine ⟨_, rfl, (by show 2 ≤ sizeLine; decide), fun p hp => ⟨_, p, _, _, _, _, rfl, upd_same, .cons (.ty "list") (.cons (.ty "tuple") .nil), tyx_of (hd.same (Same.new (Same.refl H) hp)), kit_lt d, _, rfl, ?_⟩⟩
    have s1 := Same.new (o := .tup [.ty "list", .ty "tuple"]) (Same.refl H) hp
    refine ite2 (fun hl => ?_) (fun hl => ?_)
    · have hl' : listD d = false := by
        show (isLst d || isTup d) = false
        simpa using hl
      exact hq false _ (by unfold signsD; rw [hl', Bool.false_and]) s1
    · have hl' : listD d = true := by
        have h0 : ¬ (!(listD d)) = true := hl
        simpa using h0
      obtain ⟨a, xs, rfl, hS, hA⟩ := seq_of (hd.same s1) hl'
      have hlen := dpAll_len hA
      obtain ⟨l1, ok1⟩ := items_ok od hl'
      have sd : signsD d = (decide (1 ≤ (itemsD d).length ∧ (itemsD d).length ≤ 24) && goRows (itemsD d) []) := by
        unfold signsD
        rw [hl', Bool.true_and]
      refine ⟨_, rfl, .ref a, xs.length, rfl, hS.elim (fun z => .inl ⟨_, z, rfl⟩) (fun z => .inr ⟨_, z, rfl⟩), _, _, rfl, rfl, _, rfl, ?_⟩
      refine ite2 (fun h1 => ?_) (fun h1 => ?_)
      · refine ⟨_, _, rfl, rfl, _, rfl, ?_⟩
        refine ite2 (fun h2 => ?_) (fun h2 => ?_)
        · refine hq false _ ?_ s1
          have h2' : ¬ ((xs.length : Int) ≤ 24) := by simpa using h2
          rw [sd, decide_eq_false (fun z => h2' (by omega)), Bool.false_and]
        · have hb : 1 ≤ (itemsD d).length ∧ (itemsD d).length ≤ 24 := by
            have h1' : (1 : Int) ≤ xs.length := by simpa using h1
            have h2' : (xs.length : Int) ≤ 24 := by simpa using h2
            omega
          have sd' : signsD d = ((itemsD d).all signD && decide (((itemsD d).map nameOf).Nodup)) := by
            rw [sd, decide_eq_true hb, Bool.true_and, go_eq]
          refine ⟨_, rfl, .ref a, d, rfl, hd.same s1, od, hl', fun H2 s2 => ⟨_, rfl, ?_⟩⟩
          have s12 := s1.trans s2
          refine ite2 (fun h3 => ?_) (fun h3 => ?_)
          · have h3' : (itemsD d).all signD = false := by simpa using h3
            exact hq false _ (by rw [sd', h3', Bool.false_and]) s12
          · have h3' : (itemsD d).all signD = true := by
              have h0 : ¬ (!((itemsD d).all signD)) = true := h3
              simpa using h0
            have hS2 : SqL K H2 a xs ∨ SqT K H2 a xs := hS.elim (fun z => .inl (s2.seq z)) (fun z => .inr (sqt_same s2 z))
            refine ⟨_, rfl, a, xs, rfl, hS2, fun J G hG hW => fun D hD => lc_it hW (fun i H6 => Same H2 H6 ∧ H6 D = some (.lst ((((itemsD d).take i).map nameOf).map V.str))) ⟨Same.new (Same.refl H2) hD, upd_same⟩ (fun i H6 _ ⟨z, _⟩ => hG H6 (fun q => z.seq q) (fun q => sqt_same z q)) ?_ ?_⟩
            · rintro i x H6 H7 hi ⟨s6, eD⟩ ⟨rfl, hx⟩
              obtain ⟨di, hdi, hx'⟩ := dp_at' hA hx
              have hi2 := (List.getElem?_eq_some_iff.mp hdi).1
              have hsd : signD di = true := List.all_eq_true.mp h3' di (List.mem_of_getElem? hdi)
              obtain ⟨nm, kk, mm, rfl, hnm⟩ := signD_shape hsd
              obtain ⟨b, vk, vm, rfl, hb, _, _⟩ := row_of hx'
              refine ⟨rfl, ⟨_, rfl, b, _, 0, _, rfl, rfl, sqt_same (s2.trans s6) hb, atI_nat (j := 0) rfl, _, eD, ?_, ?_, ?_⟩⟩
              · rw [List.length_map, List.length_map, List.length_take, sizeLine_eq]
                omega
              · exact fun c o e => by
                  rw [upd_ne (ne_of_none e hD)]
                  exact s6 c o e
              · rw [upd_same, take_snoc hdi, List.map_append, List.map_append]
                rfl
            · rintro H6 ⟨s6, eD⟩
              rw [hlen, List.take_length] at eD
              have s16 := s12.trans s6
              generalize hws : (itemsD d).map nameOf = ws at eD sd'
              have hwl : ws.length ≤ 24 := by
                rw [← hws, List.length_map]
                exact hb.2
              have hwok : ∀ w ∈ ws, PyData.strOk w = true := by
                intro w hw
                rw [← hws] at hw
                obtain ⟨e, he, rfl⟩ := List.mem_map.mp hw
                have hsd : signD e = true := List.all_eq_true.mp h3' e he
                obtain ⟨nm, kk, mm, rfl, hnm⟩ := signD_shape hsd
                obtain ⟨i, hi⟩ := List.getElem?_of_mem he
                have := (ok1 i _ hi).1
                exact ok_strOk (tup_at (i := 0) this rfl).1
              refine ⟨_, rfl, D, rfl, ⟨_, SqL.of eD⟩, fun D2 hD2 => lc_list (K := K) (a := D) (xs := ws.map V.str) (fun i H7 => Same H6 H7 ∧ H7 D2 = some (.lst (((ws.take i).filter fun z => !decide ((ws.countP fun u => decide (u = z)) ≤ 1)).map V.str)))
                ⟨Same.new (Same.refl H6) hD2, upd_same⟩ (fun i H7 _ ⟨s7, _⟩ => s7.seq (SqL.of eD)) ?_ ?_⟩
              · rintro i x H7 hi ⟨s7, e2⟩
                rw [List.getElem?_map] at hi
                cases hwi : ws[i]? with
                | none => rw [hwi] at hi; cases hi
                | some z =>
                  rw [hwi] at hi
                  have hx : x = V.str z := (Option.some.inj hi).symm
                  subst hx
                  have hil := (List.getElem?_eq_some_iff.mp hwi).1
                  refine ⟨rfl, ⟨_, rfl, .inl ⟨rfl, _, SqL.of (s7 _ _ eD)⟩, _, rfl, D, _, _, rfl, rfl, SqL.of (s7 _ _ eD), rfl, ?_, _, _, rfl, rfl, _, rfl, ?_⟩⟩
                  · rw [List.all_eq_true]
                    intro v hv
                    obtain ⟨u, _, rfl⟩ := List.mem_map.mp hv
                    rfl
                  · rw [cnt_strs]
                    refine ite2 (fun h5 => ?_) (fun h5 => ?_)
                    · rw [decide_eq_true_iff] at h5
                      refine ⟨_, rfl, _, e2, ?_, ?_, ?_⟩
                      · rw [List.length_map, sizeLine_eq]
                        have := List.length_filter_le (fun z => !decide ((ws.countP fun u => decide (u = z)) ≤ 1)) (ws.take i)
                        rw [List.length_take] at this
                        omega
                      · exact fun c o e => by
                          rw [upd_ne (ne_of_none e hD2)]
                          exact s7 c o e
                      · rw [upd_same, take_snoc hwi, List.filter_append, List.map_append, show ([z] : List Str).filter (fun z => !decide ((ws.countP fun u => decide (u = z)) ≤ 1)) = [z] by
                          have : ¬ (ws.countP fun u => decide (u = z)) ≤ 1 := by omega
                          simp only [List.filter, decide_eq_false this]
                          rfl]
                        rfl
                    · rw [decide_eq_true_iff] at h5
                      refine ⟨s7, ?_⟩
                      rw [e2, take_snoc hwi, List.filter_append, show ([z] : List Str).filter (fun z => !decide ((ws.countP fun u => decide (u = z)) ≤ 1)) = [] by
                          have : (ws.countP fun u => decide (u = z)) ≤ 1 := by omega
                          simp only [List.filter, decide_eq_true this]
                          rfl, List.append_nil]
              · rintro H7 ⟨s7, e2⟩
                rw [List.length_map, List.take_length] at e2
                refine ⟨(by show 0 ≤ sizeLine; decide), fun p2 hp2 => ?_⟩
                refine ⟨.list (((ws.filter fun z => !decide ((ws.countP fun u => decide (u = z)) ≤ 1))).map PyData.str), .list [], Dp.lst (SqL.of (Same.new (Same.refl H7) hp2 _ _ e2)) (dp_strs _ _ _), Dp.lst (SqL.of upd_same) .nil, shaped_strs _ (fun w hw => hwok w (List.mem_filter.mp hw).1), by decide, ?_⟩
                refine hq _ _ ?_ (Same.new (s16.trans s7) hp2)
                rw [eqv_nil, List.isEmpty_map, sd', h3', Bool.true_and, Bool.eq_iff_iff, List.isEmpty_iff, List.filter_eq_nil_iff, decide_eq_true_iff, nodup_cnt]
                constructor
                · intro h x hx
                  have := h x hx
                  simpa using this
                · intro h x hx
                  have := h x hx
                  simpa using this
      · refine ⟨_, rfl, ?_⟩
        refine hq false _ ?_ s1
        have h1' : ¬ ((1 : Int) ≤ xs.length) := by simpa using h1
        rw [sd, decide_eq_false (fun z => h1' (by omega)), Bool.false_and]
end
end K1
set_option Elab.async false
set_option linter.all false
set_option maxRecDepth 100000
set_option maxHeartbeats 4000000
namespace K1
open PySem PySem.Spec PyProof.Rows L2
/-! ### a heap with some places hidden -/
def hid (ls : List Addr) (H : Hp) : Hp := fun a => if a ∈ ls then none else H a
theorem hid_at {ls : List Addr} {H : Hp} {a : Addr} (h : a ∉ ls) : hid ls H a = H a := if_neg h
theorem hid_of {ls : List Addr} {H H' : Hp} (h : ∀ a o, a ∉ ls → H a = some o → H' a = some o) : Same (hid ls H) (hid ls H') := fun b o e => by
  unfold hid at e ⊢
  by_cases hb : b ∈ ls
  · rw [if_pos hb] at e
    cases e
  · rw [if_neg hb] at e ⊢
    exact h b o hb e
theorem hid_sub {ls ls' : List Addr} {H : Hp} (h : ∀ a, a ∈ ls' → a ∈ ls) : Same (hid ls H) (hid ls' H) := fun b o e => by
  unfold hid at e ⊢
  by_cases hb : b ∈ ls
  · rw [if_pos hb] at e
    cases e
  · rw [if_neg hb] at e
    rw [if_neg (fun z => hb (h b z))]
    exact e
theorem hid_le {ls : List Addr} {H : Hp} : Same (hid ls H) H := fun b o e => by
  unfold hid at e
  by_cases hb : b ∈ ls
  · rw [if_pos hb] at e
    cases e
  · rw [if_neg hb] at e
    exact e
theorem hid_same {ls : List Addr} {H H' : Hp} (s : Same H H') : Same (hid ls H) (hid ls H') := hid_of fun a o _ e => s a o e
theorem hid_kp {d g : Addr} {ls : List Addr} {H H' : Hp} (k : Kp d g H H') (hd : d ∈ ls) (hg : g ∈ ls) : Same (hid ls H) (hid ls H') :=
  hid_of fun a o n e => k a o (fun z => n (z ▸ hd)) (fun z => n (z ▸ hg)) e
/-! ### rows of flat parts -/
def okRow : PyData → Bool
  | .tuple [.str w, .str k, .int _] => decide (w.length ≤ 8) && (PyData.strOk w && (decide (k.length ≤ 5) && PyData.strOk k))
  | _ => false
theorem fineAll_of {ds : List PyData} (h : ∀ e ∈ ds, fineD e = true) : fineAll ds = true := by
  induction ds with
  | nil => rfl
  | cons a r ih =>
    show (fineD a && fineAll r) = true
    rw [h a List.mem_cons_self, ih fun e he => h e (List.mem_cons_of_mem _ he)]
    rfl
theorem layAll_of {ds : List PyData} (h : ∀ e ∈ ds, PyData.canLay0 e = true) : PyData.canLayAll0 ds = true := by
  induction ds with
  | nil => rfl
  | cons a r ih =>
    simp only [PyData.canLayAll0, Bool.and_eq_true]
    exact ⟨h a List.mem_cons_self, ih fun e he => h e (List.mem_cons_of_mem _ he)⟩
theorem depAll_of {n : Nat} {ds : List PyData} (h : ∀ e ∈ ds, PyData.depth e ≤ n) : PyData.depthAll ds ≤ n := by
  induction ds with
  | nil => simp [PyData.depthAll]
  | cons a r ih =>
    simp only [PyData.depthAll]
    exact Nat.max_le.mpr ⟨h a List.mem_cons_self, ih fun e he => h e (List.mem_cons_of_mem _ he)⟩
/-- what a list's part must be: data, not too deep -/
def partD (d : PyData) : Bool := fineD d && (PyData.canLay0 d && decide (PyData.depth d ≤ 20))
theorem part_row {w k : Str} {m : Int} (h1 : w.length ≤ 1000) (h2 : PyData.strOk w = true) (h3 : k.length ≤ 1000) (h4 : PyData.strOk k = true) : partD (.tuple [.str w, .str k, .int m]) = true := by
  unfold partD
  have a1 : fineD (.tuple [.str w, .str k, .int m]) = true := by
    simp [fineD, fineAll, h1, h3]
  have a2 : PyData.canLay0 (.tuple [.str w, .str k, .int m]) = true := by
    simp [PyData.canLay0, PyData.canLayAll0, h2, h4]
  have a3 : PyData.depth (.tuple [.str w, .str k, .int m]) ≤ 20 := by
    simp [PyData.depth, PyData.depthAll]
  rw [a1, a2, decide_eq_true a3]
  rfl
theorem ok_parts {ds : List PyData} (h : ∀ e ∈ ds, partD e = true) (hl : ds.length ≤ 1000) : okD (.list ds) = true := by
  have h' : ∀ e ∈ ds, fineD e = true ∧ PyData.canLay0 e = true ∧ PyData.depth e ≤ 20 := fun e he => by
    have := h e he
    unfold partD at this
    rw [Bool.and_eq_true, Bool.and_eq_true, decide_eq_true_iff] at this
    exact this
  refine ok_of ?_ ?_ ?_
  · simp only [PyData.canLay0]
    exact layAll_of fun e he => (h' e he).2.1
  · show (decide (ds.length ≤ 1000) && fineAll ds) = true
    rw [decide_eq_true hl, fineAll_of fun e he => (h' e he).1]
    rfl
  · have := depAll_of (n := 20) fun e he => (h' e he).2.2
    simp only [PyData.depth]
    omega
theorem name_strOk {z : Str} (h : nameB z = true) : PyData.strOk z = true := by
  unfold nameB at h
  rw [Bool.and_eq_true, List.all_eq_true] at h
  show z.cps.all (· < 0x110000) = true
  rw [Array.all_eq_true_iff_forall_mem]
  intro c hc
  have := h.2 c (by simpa using hc)
  unfold isLow at this
  rw [decide_eq_true_iff] at this
  rw [decide_eq_true_iff]
  omega
abbrev kindV : List Str := ["plain", "plain", "pair", "row", "heap"]
theorem kindV_ok : ∀ k ∈ kindV, k.length ≤ 5 ∧ PyData.strOk k = true := by decide +kernel
abbrev sSome : Stmt := topS 29
def spSome (K : PySem.W.Frag) : Sp := fun vs H Q _ => ∃ (d g c : Addr) (t : Nat), vs = [.ref d] ∧ Gen d g c t H ∧ t + 400 < 2 ^ 30 ∧
  ∀ (l : Addr) (xs : List V) (ds : List PyData) (H' : Hp), H' l = some (.lst xs) → H l = none → DpAll K (hid [d, g, l] H') xs ds → (∀ e ∈ ds, partD e = true) → ds.length ≤ 25 → Gen d g c (t + 400) H' → Kp d g H H' → Q (.ref l) H'
section
variable {P : Program} {w : World} {K : PySem.W.Frag} {mg : Str → Option Value} {base : Heap}
abbrev nSome : List Str := ["_law_state", "_law_size", "_law_lines", "_law_word", "_law_kind"]
theorem scSome : FnScope nSome ["_law_state"] (defScope sSome) := ⟨rfl, rfl, rfl, by decide +kernel, rfl, by decide +kernel, by decide +kernel⟩
theorem ok_some {f : Addr} {fd : FuncData} (F : Fun K "_law_some_rows" "_law_some_rows" sSome f fd) (DT : Df P w K mg base CX0 "_law_take" 2 ["_law_state", "_law_size"] spTake) (DP : Df P w K mg base CX0 "_law_pick" 3 ["_law_state", "_law_picks"] spPick) (DW : Df P w K mg base CX0 "_law_words" 3 ["_law_state", "_law_size"] spWords) : FnOk P w K mg base CX0 4 f fd ["_law_state"] (spSome K) := by
  refine F.ok scSome (fun vs H Q E h => ?_) (fun cdv A outer s H vs Q E hr h => ?_)
  · obtain ⟨d, g, c, t, rfl, _⟩ := h
    rfl
  · obtain ⟨d, g, c, t, rfl, G, ht, k⟩ := h
    refine ⟨_, pss_cons (ps_set (i := 1) scSome.nd rfl (Or.inl rfl) (pe_ix ix_list (pe_lst (pa_cons (pe_op op_add pe_int (pe_df DT hr pass0 (pa_cons (pv 0) (pa_cons pe_int pa_nil)))) (pa_cons pe_int (pa_cons pe_int (pa_cons (pe_op op_add pe_int (pe_df DT hr pass0 (pa_cons (pv 0) (pa_cons pe_int pa_nil)))) pa_nil))))) (pe_df DT hr pass0 (pa_cons (pv 0) (pa_cons pe_int pa_nil))) (fun _ _ => rfl)))
      (pss_cons (ps_set (i := 2) scSome.nd rfl (Or.inl rfl) (pe_lst pa_nil))
      (pss_cons (ps_for PassesOwn.never rfl (pi_list (pe_df DW hr pass0 (pa_cons (pv 0) (pa_cons (pv 1) pa_nil)))) (pg_name (i := 3) scSome.nd rfl (Or.inl rfl))
        (pss_cons (ps_set (i := 4) scSome.nd rfl (Or.inl rfl) (pe_df DP hr pass0 (pa_cons (pv 0) (pa_cons (pe_lst (pa_cons pe_str (pa_cons pe_str (pa_cons pe_str (pa_cons pe_str (pa_cons pe_str pa_nil)))))) pa_nil))))
        (pss_one (ps_expr (pe_bm PySem.F.plainAttrs_list PySem.F.slot_list_append PySem.F.type_list_append mt_append (pv 2) (pa_cons (pe_tup (pa_cons (pv 3) (pa_cons (pv 4) (pa_cons (pe_ifExp (pt_cmpR op_eq (pv 4) pe_str (nomark _)) (pe_df DT hr pass0 (pa_cons (pv 0) (pa_cons pe_int pa_nil))) pe_int) pa_nil)))) pa_nil))))))
      (pss_one (ps_ret (pv 2))))), ?_⟩
    refine ⟨_, rfl, d, g, c, _, 6, rfl, G, by omega, by decide, by decide, fun u1 H1 u10 u11 G1 k1 => ⟨_, _, rfl, rfl, ?_⟩⟩
    refine ⟨_, rfl, d, g, c, _, 24, rfl, G1, by omega, by decide, by decide, fun u2 H2 u20 u21 G2 k2 => ⟨_, _, rfl, rfl, (by show 4 ≤ sizeLine; decide), fun p hp => ?_⟩⟩
    refine ⟨_, rfl, d, g, c, _, 4, rfl, G2.new hp, by omega, by decide, by decide, fun u3 H3 u30 u31 G3 k3 => ?_⟩
    obtain ⟨pd, pg⟩ := G2.nd hp
    obtain ⟨y, hy, my⟩ := at_nat (xs := [V.int (1 + u1), .int 24, .int 25, .int (1 + u2)]) u30 u31
    obtain ⟨n, hn, rfl⟩ : ∃ n : Nat, n ≤ 25 ∧ y = .int n := by
      simp only [List.mem_cons, List.not_mem_nil, or_false] at my
      rcases my with rfl | rfl | rfl | rfl
      · exact ⟨(1 + u1).toNat, by omega, by rw [Int.toNat_of_nonneg (by omega)]⟩
      · exact ⟨24, by decide, rfl⟩
      · exact ⟨25, by decide, rfl⟩
      · exact ⟨(1 + u2).toNat, by omega, by rw [Int.toNat_of_nonneg (by omega)]⟩
    have k13 : Kp d g H H3 := (k1.trans k2).trans ((Kp.of (Same.new (Same.refl H2) hp)).trans k3)
    refine ⟨p, _, u3, _, rfl, rfl, SqL.of (k3 p _ pd pg upd_same), hy, (by show 0 ≤ sizeLine; decide), fun L hL => ?_⟩
    obtain ⟨Ld, Lg⟩ := G3.nd hL
    refine ⟨_, rfl, _, rfl, d, g, c, _, n, rfl, G3.new hL, hn, by omega, fun W ws H4 lw nw aw eW hW G4 k4 => ⟨W, rfl, ⟨_, SqL.of eW⟩, ?_⟩⟩
    have hL0 : H L = none := G.free G3 k13 hL
    have eL4 : H4 L = some (.lst []) := k4 L _ Ld Lg upd_same
    have nWL : W ≠ L := fun z => by rw [z, upd_same] at hW; cases hW
    obtain ⟨Wd, Wg⟩ := (G3.new hL).nd hW
    have k14 : Kp d g H H4 := k13.trans ((Kp.of (Same.new (Same.refl H3) hL)).trans k4)
    refine for_list (K := K) (a := W) (xs := ws.map V.str) (fun i σ H' => ∃ (v3 v4 : Option V) (xs : List V) (ds : List PyData), σ = [some (.ref d), some (.int n), some (.ref L), v3, v4] ∧ H' L = some (.lst xs) ∧ H' W = some (.lst (ws.map V.str)) ∧ xs.length = i ∧ DpAll K (hid [d, g, L] H') xs ds ∧ (∀ e ∈ ds, partD e = true) ∧ Gen d g c (t + 280 + 2 * i) H' ∧ Kp d g H H')
      ⟨none, none, [], [], rfl, eL4, eW, rfl, .nil, (fun _ z => absurd z (by simp)), G4.mono (by omega), k14⟩ (fun i σ H' _ ⟨_, _, _, _, _, _, z, _⟩ => SqL.of z) ?_ ?_
    · rintro i x σ H5 hi ⟨v3, v4, xs, ds, rfl, eL5, eW5, lx, hD, hP, G5, k5⟩
      rw [List.getElem?_map] at hi
      cases hwi : ws[i]? with
      | none => rw [hwi] at hi; cases hi
      | some z =>
        rw [hwi] at hi
        have hx : x = V.str z := (Option.some.inj hi).symm
        subst hx
        have hil := (List.getElem?_eq_some_iff.mp hwi).1
        have hnz := aw z (List.mem_of_getElem? hwi)
        have hil2 : i < 25 := by omega
        refine ⟨_, rfl, (by show 5 ≤ sizeLine; decide), fun q hq => ?_⟩
        obtain ⟨qd, qg⟩ := G5.nd hq
        refine ⟨d, g, c, q, t + 280 + 2 * i, _, rfl, G5.new hq, by omega, upd_same, qg, (by intro z; cases z), (by show 5 < 2 ^ 50; decide), fun v H6 hv G6 k6 => ?_⟩
        have k56 : Kp d g H5 H6 := (Kp.of (Same.new (Same.refl H5) hq)).trans k6
        obtain ⟨kn, hkn, rfl⟩ : ∃ kn, kn ∈ kindV ∧ v = .str kn := by
          have hv' : v ∈ kindV.map V.str := hv
          obtain ⟨y, h1, h2⟩ := get_map hv'
          exact ⟨y, h1, h2⟩
        obtain ⟨kl, ks⟩ := kindV_ok kn hkn
        have nl := name_len hnz
        have fin : ∀ (m : Int) (H7 : Hp), Gen d g c (t + 280 + 2 * i + 2) H7 → Kp d g H6 H7 → (∀ p2, H7 p2 = none → ∃ xs' : List V, upd H7 p2 (.tup [.str z, .str kn, .int m]) L = some (.lst xs') ∧ xs'.length + 1 ≤ sizeLine ∧ ∃ (v3 v4 : Option V) (xs2 : List V) (ds2 : List PyData), [some (V.ref d), some (.int n), some (.ref L), some (.str z), some (.str kn)] = [some (.ref d), some (.int n), some (.ref L), v3, v4] ∧ (upd (upd H7 p2 (.tup [.str z, .str kn, .int m])) L (.lst (xs' ++ [.ref p2]))) L = some (.lst xs2) ∧ (upd (upd H7 p2 (.tup [.str z, .str kn, .int m])) L (.lst (xs' ++ [.ref p2]))) W = some (.lst (ws.map V.str)) ∧ xs2.length = i + 1 ∧ DpAll K (hid [d, g, L] (upd (upd H7 p2 (.tup [.str z, .str kn, .int m])) L (.lst (xs' ++ [.ref p2])))) xs2 ds2 ∧ (∀ e ∈ ds2, partD e = true) ∧ Gen d g c (t + 280 + 2 * (i + 1)) (upd (upd H7 p2 (.tup [.str z, .str kn, .int m])) L (.lst (xs' ++ [.ref p2]))) ∧ Kp d g H (upd (upd H7 p2 (.tup [.str z, .str kn, .int m])) L (.lst (xs' ++ [.ref p2])))) := by
          intro m H7 G7 k7 p2 hp2
          have k57 := k56.trans k7
          have eL7 := k57 L _ Ld Lg eL5
          have eW7 := k57 W _ Wd Wg eW5
          have n2L : L ≠ p2 := ne_of_none eL7 hp2
          have n2W : W ≠ p2 := ne_of_none eW7 hp2
          obtain ⟨d2, g2⟩ := G7.nd hp2
          refine ⟨xs, by rw [upd_ne n2L]; exact eL7, by rw [lx, sizeLine_eq]; omega, some (.str z), some (.str kn), xs ++ [.ref p2], ds ++ [.tuple [.str z, .str kn, .int m]], rfl, upd_same, by rw [upd_ne nWL, upd_ne n2W]; exact eW7, by rw [List.length_append, lx]; rfl, ?_, ?_, ?_, ?_⟩
          · have s1 : Same (hid [d, g, L] H5) (hid [d, g, L] (upd (upd H7 p2 (.tup [.str z, .str kn, .int m])) L (.lst (xs ++ [.ref p2])))) := hid_of fun a o n e => by
              simp only [List.mem_cons, List.not_mem_nil, or_false, not_or] at n
              rw [upd_ne n.2.2]
              exact Same.new (Same.refl H7) hp2 _ _ (k57 a o n.1 n.2.1 e)
            refine dpAll_snoc (dp_sameAll s1 _ _ hD) (.tup (SqT.of ?_) (.cons (.str _) (.cons (.str _) (.cons (.int _) .nil))))
            rw [hid_at (by
              simp only [List.mem_cons, List.not_mem_nil, or_false, not_or]
              exact ⟨d2, g2, n2L.symm⟩), upd_ne n2L.symm, upd_same]
          · intro e he
            rcases List.mem_append.mp he with h | h
            · exact hP e h
            · rw [List.mem_singleton.mp h]
              exact part_row (by omega) (name_strOk hnz) (by omega) ks
          · exact ((G7.new hp2).off Ld Lg (G3.nc hL)).mono (by omega)
          · exact ((k5.trans k57).trans (Kp.of (Same.new (Same.refl H7) hp2))).upd (.inl hL0)
        have k57L : ∀ H7, Kp d g H6 H7 → H7 L = some (.lst xs) := fun H7 k7 => k7 L _ Ld Lg (k56 L _ Ld Lg eL5)
        refine ⟨_, rfl, .inl ⟨rfl, _, SqL.of (k57L H6 Kp.refl)⟩, _, rfl, _, rfl, ?_⟩
        refine ⟨_, rfl, rfl, _, rfl, ?_⟩
        refine ite2 (fun _ => ?_) (fun _ => ?_)
        · refine ⟨_, rfl, d, g, c, _, 5, rfl, G6, by omega, by decide, by decide, fun m H7 m0 m1 G7 k7 => ⟨(by show 3 ≤ sizeLine; decide), fun p2 hp2 => ?_⟩⟩
          obtain ⟨xs', e, l, r⟩ := fin m H7 (G7.mono (by omega)) k7 p2 hp2
          exact ⟨L, _, _, rfl, rfl, e, l, r⟩
        · refine ⟨(by show 3 ≤ sizeLine; decide), fun p2 hp2 => ?_⟩
          obtain ⟨xs', e, l, r⟩ := fin 2 H6 (G6.mono (by omega)) Kp.refl p2 hp2
          exact ⟨L, _, _, rfl, rfl, e, l, r⟩
    · rintro σ H5 ⟨v3, v4, xs, ds, rfl, eL5, eW5, lx, hD, hP, G5, k5⟩
      refine ⟨_, rfl, k L xs ds H5 eL5 hL0 hD hP ?_ (G5.mono ?_) k5⟩
      · rw [← dpAll_len hD, lx, List.length_map]
        omega
      · rw [List.length_map]
        omega
end
end K1
set_option Elab.async false
set_option linter.all false
set_option maxRecDepth 100000
set_option maxHeartbeats 4000000
namespace K1
open PySem PySem.Spec PyProof.Rows L2
/-! ### an error that is kept behind its except suite: it is tracked as a thing of its own -/
def ExcO (a : Addr) (cls : Value) (d : Option Addr) : HO := .ext fun h => ∃ (oe : Obj) (vs : Array Value), h.get? a = some oe ∧ oe.data = .fields vs ∧ Zc cls d oe
theorem excO_ok {P : Program} {w : World} {H : Hp} {h : Heap} {a : Addr} {cls : Value} {d : Option Addr} {oe : Obj} {vs : Array Value} (ha : h.get? a = some oe) (hd : oe.data = .fields vs) (hz : Zc cls d oe) : ObjOk P w H h a (ExcO a cls d) :=
  ⟨⟨oe, vs, ha, hd, hz⟩, ⟨oe, ha⟩, fun h1 h2 ⟨o, v, e, p, q⟩ k => ⟨o, v, k o e, p, q⟩⟩
section
variable {X : Cx} {pins : List (Addr × Obj)} {σ : L2.St} {H : Hp} {s : Shared}
theorem inv_track (I : Inv X pins σ H s) {a : Addr} {cls : Value} {d : Option Addr} {oe : Obj} {vs : Array Value} (ha : s.heap.get? a = some oe) (hd : oe.data = .fields vs) (hz : Zc cls d oe) (na : H a = none)
    (n0 : X.s_0.heap.get? a = none ∨ a ∈ X.ex) (nL : a ≠ X.env.locals) (nc : ∀ x c, X.env.cells.lookup x = some c → c ≠ a) (np : ∀ p ∈ X.pn ++ pins, p.1 ≠ a) : Inv X pins σ (upd H a (ExcO a cls d)) s := by
  have off : ∀ {b : Addr} {o : HO}, H b = some o → upd H a (ExcO a cls d) b = some o := fun {b o} e => by
    rw [upd_ne (ne_of_none e na)]
    exact e
  refine ⟨I.ok, I.os, I.bare, ⟨I.base.keep, I.base.slot, fun b o e n hx => ?_, I.base.there, fun b xs e => off (I.base.tups b xs e), fun b o u e => off (I.base.frzs b o u e), fun b ps e => ?_⟩, I.loc, I.cell, ?_, fun x c e => ?_, fun p hp => ?_, fun b o e => ?_, I.len⟩
  · have hb : b ≠ a := fun z => by
      rcases n0 with n0 | n0
      · rw [z, n0] at e
        cases e
      · exact hx (z ▸ n0)
    rw [upd_ne hb]
    exact I.base.free b o e n hx
  · obtain ⟨more, q⟩ := I.base.tbls b ps e
    exact ⟨more, off q⟩
  · rw [upd_ne (Ne.symm nL)]
    exact I.free
  · rw [upd_ne (nc x c e)]
    exact I.freeC x c e
  · obtain ⟨e1, e2, e3⟩ := I.pin p hp
    exact ⟨e1, by rw [upd_ne (np p hp)]; exact e2, e3⟩
  · by_cases hb : b = a
    · subst hb
      rw [upd_same] at e
      cases e
      exact excO_ok ha hd hz
    · rw [upd_ne hb] at e
      exact (I.hok b o e).stay (fun _ _ _ q => q) (fun _ q => off q) fun _ _ q => off q
end
/-- what the clause wishes of an exception that is kept -/
def wKeep (K : PySem.W.Frag) (c : Value) (i : Nat) (ts : Addr → Value → Option Addr → TS) (Wout : WX) (D : Ends) : WX := fun cls d σ H =>
  ∃ b, PySem.W.exmOne K cls c = some b ∧ (b = true → ∀ a, H a = none → ts a cls d { nx := fun σ' H' => D.nx (σ'.set i none) (upd H' a (ExcO a cls d)), rt := fun _ _ => False, bk := fun _ _ => False, ct := fun _ _ => False } (σ.set i (some (.ref a))) H) ∧
    (b = false → Wout cls d σ H)
section
variable {X : Cx} {x n : Str} {c : Value} {i : Nat} {body suite : List Stmt} {b₀ : Stmt} {np pos pos' : Pos} {tb : WX → TS} {ts : Addr → Value → Option Addr → TS} {Wout : WX}
theorem ps_try_keep (hs : X.stack = X.env :: X.outer) (hf : X.env.frame = some X.env.locals) (hN : X.N.Nodup) (hi : X.N[i]? = some n) (hln : X.env.kindOf n = some .local) (hc : Names X x c) (tk : Takes X Wout)
    (hb : ∀ (W : WX) (pn : List (Addr × Obj)) (xe : Value → Shared → Prop), Takes (X.tr pn xe) W → PassesOwn (model X.prog X.w) X.A X.env xe → PSs (X.tr pn xe) body (tb W))
    (hsu : ∀ (a : Addr) (oe : Obj) (cls : Value) (d : Option Addr) (pn : List (Addr × Obj)), Zc cls d oe → (∃ vs, oe.data = .fields vs) → PSs (X.suite a ((a, oe) :: pn)) (b₀ :: suite) (ts a cls d)) :
    PS X (.Try body [.ExceptHandler (some (.Name x np)) (some n) (b₀ :: suite) pos'] [] [] pos) (fun D σ H => tb (wKeep X.K c i ts Wout D) D σ H) := by
  refine ⟨fun pins s σ H D I h => ?_⟩
  have ok := I.ok
  have frA : X.A.frames = some (X.env :: X.outer) := by rw [ok.frames, hs]
  have hloc : Loc X.env.scope n := .inl hln
  refine wpAny_Try_except ?_
  refine wpAny_mono ((hb (wKeep X.K c i ts Wout D) (X.pn ++ pins)
    (fun e s₁ => wpAny (model X.prog X.w) X.A (noteFrame e X.env)
      (fun _ s₂ => wpAny (model X.prog X.w) X.A (setFlight e none)
        (fun _ s₃ => wpAny (model X.prog X.w) X.A (handleBy e X.env [.ExceptHandler (some (.Name x np)) (some n) (b₀ :: suite) pos']) (SP X pins D) X.xe s₃) X.xe s₂) X.xe s₁)
    (fun u s' xx => ?_) PassesOwn.looking).run [] s σ H D (I.toTry _) h) (fun f s1 hsp => ?_) (fun e s1 he => he)
  · obtain ⟨a, B, sI, pins', σ', H', cls, d, rfl, J', nb, up, sky, na, os, ag, b, hb1, hyes, hno⟩ := xx
    have J : Inv X pins σ' H' sI := J'.ofTry ok
    have skyE : Sky B (X.env :: X.outer) a (Zc cls d) X.env.locals s'.heap := by rw [← hs]; exact sky
    show wpAny (model X.prog X.w) X.A (noteFrame (.ref a) X.env) _ _ _
    refine Sky.land Zc.steady hf (hfr := frA) skyE fun h3 fl3 up3 => ?_
    have J3 : Inv X pins σ' H' { s' with heap := h3 } := J.landed nb fl3.1 (up.trans up3) os ag
    obtain ⟨oe3, vs3, he3, hz3, hd3⟩ := fl3.there
    have nfr : a ∉ frs (X.env :: X.outer) := fun hm => by
      obtain ⟨_, o', e', hnf⟩ := fl3.2.2.1.mem hm
      rw [he3] at e'
      cases e'
      exact hnf _ hd3
    have nL : a ≠ X.env.locals := fun z => nfr (List.mem_filterMap.mpr ⟨X.env, .head _, by rw [hf, z]⟩)
    have nF : a ∉ X.fs := fun hm => by
      obtain ⟨e, he, q⟩ := List.mem_filterMap.mp hm
      exact nfr (List.mem_filterMap.mpr ⟨e, .tail _ he, q⟩)
    have nI : sI.heap.get? a = none := by
      cases q : sI.heap.get? a with
      | none => rfl
      | some o =>
        have z := nb a o q (by rw [hs]; exact nfr)
        rw [fl3.2.1] at z
        cases z
    have n0 : X.s_0.heap.get? a = none ∨ a ∈ X.ex := by
      by_cases hx : a ∈ X.ex
      · exact .inr hx
      · cases q : X.s_0.heap.get? a with
        | none => exact .inl rfl
        | some o =>
          obtain ⟨o', z⟩ := J.base.there a o q hx
          rw [nI] at z
          cases z
    have nc : ∀ y c, X.env.cells.lookup y = some c → c ≠ a := fun y c e z => by
      obtain ⟨v, hv⟩ := J.cell y c e
      rw [z] at hv
      obtain ⟨o, ho, _⟩ := hv
      rw [nI] at ho
      cases ho
    have npa : ∀ p ∈ X.pn ++ pins, p.1 ≠ a := fun p hp z => by
      obtain ⟨e, _⟩ := J.pin p hp
      rw [z, nI] at e
      cases e
    have S3 := J3.suite he3 hd3 na nL nF
    refine wpAny_handleBy_cons (codeAny_handlers_test ?_) (by intro q; cases q)
    have LT : PySem.W.Looks (model X.prog X.w) h3 (typeOf (.ref a)) cls := fun A Q E s k q => by
      refine wpAny_typeOf_ref (k _ _ he3) ?_
      rw [hz3.1]
      exact q
    have LM := PySem.W.exm_one (M := model X.prog X.w) (J3.kIn) LT hb1
    have named : ∀ {Q : Value → Shared → Prop} {E : Value → Shared → Prop}, Q c { s' with heap := h3 } →
        wpAny (model X.prog X.w) (X.A.mark (some (.ref a))) (eval (.Name x np) X.env) Q E { s' with heap := h3 } := fun {Q E} q => by
      obtain ⟨hg, hdbg, hm | ⟨hm, hv, hnn⟩⟩ := hc
      · exact ld_glob (X := X.suite a ((a, oe3) :: (X.pn ++ pins))) S3 hg hm q hdbg
      · exact ld_blt (X := X.suite a ((a, oe3) :: (X.pn ++ pins))) S3 hg hm hv q hnn hdbg
    refine named (LM.here ?_)
    cases b with
    | true =>
      refine codeAny_handlers_suite_as ?_
      refine HandSPX.lands_againZ fl3 fun h4 fl4 up4 => ?_
      obtain ⟨oe4, vs4, he4, hz4, hd4⟩ := fl4.there
      have K4 : Inv X pins σ' H' { s' with heap := h4 } := J.landed nb fl4.1 ((up.trans up3).trans up4) os ag
      have S4 := K4.suite he4 hd4 na nL nF
      refine store_ok (X := X.suite a ((a, oe4) :: (X.pn ++ pins))) (v := .ref a) S4 hN hi hloc rfl (fun s5 S5 => ?_) (.inr hln)
      refine wpAny_mono ((hsu a oe4 cls d (X.pn ++ pins) hz4 ⟨_, hd4⟩).run [] s5 _ H' _ S5 (hyes rfl a na)) (fun f s6 hsp => ?_) (fun _ _ z => False.elim z)
      cases f with
      | next =>
        obtain ⟨σ6, H6, S6, q6⟩ := hsp
        obtain ⟨g1, g2, _⟩ := S6.pin (a, oe4) (by simp)
        exact gone_ok (inv_track (S6.unsuite ok) g1 hd4 hz4 g2 n0 nL nc npa) hN hi hln fun s7 J7 => ⟨_, _, J7, q6⟩
      | brk =>
        obtain ⟨_, _, _, z⟩ := hsp
        exact z.elim
      | cont =>
        obtain ⟨_, _, _, z⟩ := hsp
        exact z.elim
      | ret u =>
        obtain ⟨_, _, _, _, _, z⟩ := hsp
        exact z.elim
    | false =>
      show wpAny _ X.A (handleBy (.ref a) X.env []) _ _ _
      refine wpAny_handleBy_nil ?_
      obtain ⟨k1, k2, k3, oe, vs, T, oT, ts', he, hz, hd, h1, hr⟩ := id fl3
      unfold PySem.passOn
      refine wpAny_bind (wpAny_field he hd h1 ?_)
      have nt : ¬ ((Value.ref T == Value.none) = true) := by simp
      rw [if_neg nt]
      have fin : wpAny (model X.prog X.w) X.A (setFlight (.ref a) X.env.frame)
          (fun _ s4 => wpAny (model X.prog X.w) X.A (throw (.ref a) : Sem Flow) (SP X pins D) X.xe s4) X.xe { s' with heap := h3 } := by
        rw [hf]
        refine HandSPX.setFlight_upZ fl3 fun h4 hh4 up4 => wpAny_throw (tk _ _ ?_)
        exact ⟨a, B, sI, pins, σ', H', cls, d, rfl, J, nb, (up.trans up3).trans up4, .inr (.inr (by rw [hs]; exact hh4)), na, os, ag, hno rfl⟩
      first
        | exact wpAny_bind (wpAny_pure (wpAny_bind fin))
        | exact wpAny_bind fin
  · cases f with
    | next =>
      obtain ⟨σ', H', J', q⟩ := hsp
      exact wpAny_execs_nil ⟨σ', H', J'.ofTry ok, q⟩
    | brk =>
      obtain ⟨σ', H', J', q⟩ := hsp
      exact ⟨σ', H', J'.ofTry ok, q⟩
    | cont =>
      obtain ⟨σ', H', J', q⟩ := hsp
      exact ⟨σ', H', J'.ofTry ok, q⟩
    | ret u =>
      obtain ⟨v, σ', H', J', r, q⟩ := hsp
      exact ⟨v, σ', H', J'.ofTry ok, r, q⟩
end
end K1
set_option Elab.async false
set_option linter.all false
set_option maxRecDepth 100000
set_option maxHeartbeats 4000000
namespace PySem.W
open PySem PySem.Spec PySem.Calls PyProof.Rows
section
variable {pr : Program} {wd : World} {A : Around} {E : Value → Shared → Prop} {s : Shared} {F : Frag} {y C0 : Addr} {oy : Obj} {od : Option Obj}
theorem findObj_bindO {C1 : Addr} {nm : Str} {at_ gt : Value} (h1 : (clsIn F C1).isSome = true) (h2 : findIn F (.ref C1) nm = some (some at_)) (h3 : specialIn F at_ "__get__" = some (some gt)) (h4 : takesIn F at_ = some true) :
    findObj F C1 od nm = some (.bind gt at_) := by
  obtain ⟨cd, h1⟩ := Option.isSome_iff_exists.mp h1
  unfold findObj
  rw [h1, Option.bind_some, h2, Option.bind_some]
  simp [h3, h4]
/-- x.__class__ of an error, with or without a dict of its own -/
theorem err_class {Q : Option Value → Shared → Prop} (C : L2.ExcC F C0) (X : F.In s.heap) (I : InstAt s.heap y oy C0 od) (h : Q (some (.ref C0)) { s with toks := s.toks + 1 }) :
    wpAny (model pr wd) A (getAttr? (.ref y) "__class__") Q E s := by
  have some0 : (clsIn F C0).isSome = true := by
    obtain ⟨cd, hc, _⟩ := any_some C.hd
    rw [hc]
    rfl
  have hf := findObj_bindO (od := od) some0 C.ha C.hn C.ht
  obtain ⟨hp, gs, dr, tk, os⟩ := s
  have T0 := I.type (M := model pr wd)
  have T1 := looks_findIn (M := model pr wd) X C.hg
  have T2 := looks_findIn (M := model pr wd) X C.hk
  have T3 := looks_find (M := model pr wd) X I hf
  have below : Looks (model pr wd) hp (isInstance (.ref y) (.type "BaseException")) true := T0.andThen (looks_subIn X C.hs)
  have b0 : (false && onTheHeap (Value.builtin "BaseException.__getattribute__")) = false := rfl
  have b2 : (Value.builtin "BaseException.__getattribute__" == Value.builtin "object.__getattribute__") = false := by decide +kernel
  have b1 : (onTheHeap (Value.ref C0) && Value.builtin "BaseException.__getattribute__" == Value.builtin "object.__getattribute__") = false := by
    rw [b2]
    rfl
  unfold getAttr? getAttrBy? getAttrBy
  refine wpAny_bind (wpAny_mkText (wpAny_bind (wpAny_attempt (wpAny_holding (wpAny_bind (T0.at (wpAny_bind (T1.at ?_))))))))
  show wpAny _ _ (if (onTheHeap (Value.ref C0) && Value.builtin "BaseException.__getattribute__" == Value.builtin "object.__getattribute__") = true then _ else _) _ _ _
  rw [b1, if_neg Bool.false_ne_true]
  unfold getAttrByItsOwn hookBefore
  refine wpAny_bind ?_
  rw [if_pos (show onTheHeap (Value.ref C0) = true from rfl)]
  refine T2.at ?_
  refine wpAny_bind (wpAny_attempt (wpAny_holding ?_))
  unfold callGetattribute
  rw [b0, if_neg Bool.false_ne_true]
  unfold boundAndCalled
  rw [PySem.F.excAttr_ValueError.ga.bind (.ref y)]
  refine wpAny_bind (wpAny_pure ?_)
  show wpAny _ _ (call (.builtin "BaseException.__getattribute__") [.ref y, .str "__class__" tk]) _ _ _
  refine wpAny_call (codeAny_call_builtin PySem.F.excAttr_ValueError.ga.plain PySem.F.entry_bexc_ga ?_)
  refine @check_slot (model pr wd) _ _ ⟨hp, gs, dr, tk + 1, os⟩ "BaseException.__getattribute__" "BaseException" "__getattribute__" (.ref y) [.str "__class__" tk] [] _ (by decide +kernel) (by decide +kernel) below (PySem.F.args_bexc_ga (.ref y) (.str "__class__" tk)) ?_
  unfold Builtin.«object.__getattribute__»
  refine wpAny_bind (wpAny_of_eq (a := ((Value.ref y : Value), [Value.str "__class__" tk])) (by first | rfl | (simp only [slotArgs]; rfl)) ?_)
  refine wpAny_bind (wpAny_pure (wpAny_bind (T0.at (wpAny_bind (T3.at ?_)))))
  show wpAny _ _ (holding [Value.builtin "object.__class__"] (call (.builtin "getset_descriptor.__get__") [.builtin "object.__class__", .ref y, .ref C0]) >>= ret) _ _ _
  refine wpAny_bind (wpAny_holding (wpAny_call (class_get (s := ⟨hp, gs, dr, tk + 1, os⟩) (ox := oy) (od := od) X I C.hm ?_)))
  refine wpAny_pure ?_
  show wpAny _ _ (handedOut (.ref C0)) _ _ _
  rw [handedOut_of (v := .ref C0) rfl]
  first
    | exact wpAny_pure (wpAny_pure h)
    | exact wpAny_pure h
    | exact wpAny_pure (wpAny_bind (wpAny_pure (wpAny_pure h)))
theorem kitx_err (C : L2.ExcC F C0) : KitX F (.ref y) (.ref C0) (fun h => InstAt h y oy C0 od) where
  ty := fun _ _ _ I => I.type
  it := fun _ _ X _ => by
    obtain ⟨cd0, h0, _⟩ := any_some C.hd
    unfold clsIn at h0
    split at h0
    · rename_i c' d' cd' sl' ho
      intro A' Q' E' s' k q
      unfold isType loadHead
      exact wpAny_bind (wpAny_loadPart (k _ _ (X _ _ ho)) (wpAny_pure q))
    · cases h0
  ne := fun h tp dd its n sl X htp => by
    obtain ⟨cd0, h0, _⟩ := any_some C.hd
    refine Bool.eq_false_iff.mpr fun q => ?_
    cases Value.ref.inj (beq_iff_eq.mp q)
    unfold clsIn at h0
    split at h0
    · rename_i c' d' cd' sl' ho
      have z := (X _ _ ho).symm.trans htp
      cases z
    · cases h0
  ca := fun X I k => err_class C X I k
end
end PySem.W
namespace K1
open PySem PySem.Spec PyProof.Rows L2
/-- the dict of an error: none, or one that is tracked -/
def XDict (H : Hp) : Option Addr → Prop
  | none => True
  | some dd => ∃ fs, H dd = some (.xd fs)
section
variable {X : Cx}
theorem exc_inst {pins : List (Addr × Obj)} {σ : L2.St} {H : Hp} {s : Shared} (I : Inv X pins σ H s) {a D : Addr} {d : Option Addr} (ha : H a = some (ExcO a (.ref D) d)) (hd : XDict H d) : ∃ oe od, PySem.W.InstAt s.heap a oe D od := by
  obtain ⟨⟨oe, vs, e1, e2, e3⟩, _⟩ := (show ObjOk X.prog X.w H s.heap a (ExcO a (.ref D) d) from I.hok a _ ha)
  have nocls : PySem.W.notCls oe = true := by
    unfold PySem.W.notCls
    rw [e2]
  cases d with
  | none => exact ⟨oe, none, e1, e3.1, nocls, by rw [e3.2]; trivial⟩
  | some dd =>
    obtain ⟨fs, hfs⟩ := hd
    obtain ⟨mA, hns, _⟩ := (show ObjOk X.prog X.w H s.heap dd (.xd fs) from I.hok dd _ hfs)
    obtain ⟨od, ho, hl⟩ := lookIn_ns hns
    exact ⟨oe, some od, e1, e3.1, nocls, by rw [e3.2]; exact ho⟩
/-- isinstance(e, c) | isinstance(e, (c, ..)), e an error that is kept -/
def rIsX (K : PySem.W.Frag) : List V → Hp → VK → Prop := fun xs H Q => ∃ (a D : Addr) (d : Option Addr) (c : V) (u : Value) (b : Bool), xs = [.ref a, c] ∧ H a = some (ExcO a (.ref D) d) ∧ XDict H d ∧ ExcC K D ∧ ClsV c u ∧ PySem.W.kitOne K (.ref D) u = some b ∧ Q (.bl b) H
def rIsXT (K : PySem.W.Frag) : List V → Hp → VK → Prop := fun xs H Q => ∃ (a D tp : Addr) (d : Option Addr) (cs : List V) (us : List Value) (b : Bool), xs = [.ref a, .ref tp] ∧ H a = some (ExcO a (.ref D) d) ∧ XDict H d ∧ ExcC K D ∧ H tp = some (.tup cs) ∧ Paired ClsV cs us ∧ PySem.W.kitAny K (.ref D) us = some b ∧ Q (.bl b) H
theorem call_isX : CallR X (.builtin "isinstance") (rIsX X.K) := by
  intro pins s σ H xs us Q I r h
  obtain ⟨a, D, d, c, u, b, rfl, ha, hd, C, hc, e, q⟩ := h
  obtain ⟨oe, od, J⟩ := exc_inst I ha hd
  obtain ⟨u1, u2, rfl, r1, r2⟩ := vals2 r
  cases r1
  cases hc.eq r2
  exact PySem.W.kia_one (PySem.W.kitx_err (oy := oe) (od := od) C) I.kIn J e (fun z => nomatch z) fun tk => ⟨.bl b, H, I.tok tk, rfl, q⟩
theorem call_isXT : CallR X (.builtin "isinstance") (rIsXT X.K) := by
  intro pins s σ H xs us Q I r h
  obtain ⟨a, D, tp, d, cs, ws, b, rfl, ha, hd, C, hT, hc, e, q⟩ := h
  obtain ⟨oe, od, J⟩ := exc_inst I ha hd
  obtain ⟨u1, u2, rfl, r1, r2⟩ := vals2 r
  cases r1
  cases r2
  obtain ⟨_, its, rv, o, h1, h2, n, h3⟩ := (show ObjOk X.prog X.w H s.heap tp (.tup cs) from I.hok tp _ hT)
  cases ClsV.all hc rv
  obtain ⟨oc, od2, dt, sl⟩ := o
  dsimp only at h2 h3
  subst h2 h3
  exact PySem.W.kia_tup (PySem.W.kitx_err (oy := oe) (od := od) C) I.kIn J h1 e (fun z => nomatch z) fun tk => ⟨.bl b, H, I.tok tk, rfl, q⟩
/-- e.f, e an error that is kept -/
def tXk (K : PySem.W.Frag) (f : Str) (te : TE) : TE := fun σ H Q => te σ H fun x H1 => ∃ (a D dd : Addr) (fs : List (Str × V)) (v : V), x = .ref a ∧ H1 a = some (ExcO a (.ref D) (some dd)) ∧ H1 dd = some (.xd fs) ∧ XfC K D ∧ PySem.W.findIn K (.ref D) f = some none ∧ fs.lookup f = some v ∧ Q v H1
theorem pe_xk {e : Expr} {te : TE} {pos : Pos} {n : Str} (he : PE X e te) (hb : attributeBase e n X.env (eval e X.env) = eval e X.env := by rfl) : PE X (.Attribute e n pos) (tXk X.K n te) := by
  refine ⟨fun pins s σ H Q I h => attr_of hb (thn (he.run pins s σ H _ I h) fun u s1 hh => ?_)⟩
  obtain ⟨x, H1, I1, rx, a, D, dd, fs, v, ex, ea, ed, T, hno, l, q⟩ := hh
  subst ex
  cases rx
  obtain ⟨⟨oe, vs, e1, e2, e3⟩, _⟩ := (show ObjOk X.prog X.w H1 s1.heap a (ExcO a (.ref D) (some dd)) from I1.hok a _ ea)
  obtain ⟨mA, hns, hr⟩ := (show ObjOk X.prog X.w H1 s1.heap dd (.xd fs) from I1.hok dd _ ed)
  obtain ⟨od, ho, hl⟩ := lookIn_ns hns
  have hrn := hr n
  rw [l] at hrn
  obtain ⟨u, hu, ru⟩ := RelO.some_of (v := v) (o := mA n) hrn
  have J : PySem.W.InstAt s1.heap a oe D (some od) := ⟨e1, e3.1, by unfold PySem.W.notCls; rw [e2], by rw [e3.2]; exact ho⟩
  have hfo := PySem.W.findObj_own (od := od) T.hdC hno rfl (by rw [hl, hu])
  exact HandSPX.exc_get I1.kIn J T.ga T.gg T.exC hfo (handed_of ru) ⟨v, H1, I1.tok _, ru, q⟩
end
end K1
set_option Elab.async false
set_option linter.all false
set_option maxRecDepth 100000
set_option maxHeartbeats 4000000
namespace K1
open PySem PySem.Spec PyProof.Rows L2
abbrev sRef : Stmt := topS 28
abbrev nRef : List Str := ["_law_work", "_law_caught", "e", "_law_marks"]
theorem bootVE : bootBuiltins "ValueError" = some (.type "ValueError") := by decide +kernel
/-- what _law_refused asks of the classes of errors: CN NoSigns, CS NoSign, CT TurnError; Cs6 the others -/
structure RfC (K : PySem.W.Frag) (mg : Str → Option Value) (CN CS CT c1 c2 c3 c4 c5 c6 : Addr) : Prop where
  gN : mg "NoSigns" = some (.ref CN)
  gS : mg "NoSign" = some (.ref CS)
  gT : mg "TurnError" = some (.ref CT)
  g1 : mg "NoName" = some (.ref c1)
  g2 : mg "NoTerm" = some (.ref c2)
  g3 : mg "NoText" = some (.ref c3)
  g4 : mg "TooMany" = some (.ref c4)
  g5 : mg "TooGreat" = some (.ref c5)
  g6 : mg "NoPattern" = some (.ref c6)
  gV : mg "ValueError" = none
  exN : PySem.W.exmOne K (.ref CN) (.ref CT) = some true
  exS : PySem.W.exmOne K (.ref CS) (.ref CT) = some true
  eN : ExcC K CN
  eS : ExcC K CS
  nn : PySem.W.kitOne K (.ref CN) (.ref CN) = some true
  ns : PySem.W.kitOne K (.ref CN) (.ref CS) = some false
  sn : PySem.W.kitOne K (.ref CS) (.ref CN) = some false
  ss : PySem.W.kitOne K (.ref CS) (.ref CS) = some true
  n6 : PySem.W.kitAny K (.ref CN) [.ref c1, .ref c2, .ref c3, .ref c4, .ref c5, .ref c6] = some false
  s6 : PySem.W.kitAny K (.ref CS) [.ref c1, .ref c2, .ref c3, .ref c4, .ref c5, .ref c6] = some false
  nV : PySem.W.kitOne K (.ref CN) (.type "ValueError") = some true
  sV : PySem.W.kitOne K (.ref CS) (.type "ValueError") = some true
  xf : XfC K CS
  fn : PySem.W.findIn K (.ref CS) "name" = some none
/-- all stands as it did, and at p that tuple -/
def Tld (H : Hp) (xs : List V) (Q : VK) : Prop := ∀ (p : Addr) (H' : Hp), Same H H' → H p = none → H' p = some (.tup xs) → Q (.ref p) H'
/-- the word of a refusal: what is made of what the thing handed in does -/
def TTref (CN CS : Addr) : (XK → Hp → VK → Prop) → Hp → VK → Prop := fun tl H Q =>
  tl (fun cls d H' => (cls = .ref CN ∧ d = none ∧ Tld H' [.str "signs", .non] Q) ∨ ∃ dd v, cls = .ref CS ∧ d = some dd ∧ H' dd = some (.xd [(("name" : Str), v)]) ∧ Tld H' [.str "sign", v] Q) H
    (fun _ H' => Tld H' [.str "", .non] Q)
theorem scRef : FnScope nRef ["_law_work"] (defScope sRef) := ⟨rfl, rfl, rfl, by decide +kernel, rfl, by decide +kernel, by decide +kernel⟩
section
variable {X : Cx}
theorem takes_len {W : WX} {n : Nat} (hn : X.N.length = n) (tk : L2.Takes X W) : L2.Takes X (fun cls d σ H => σ.length = n → W cls d σ H) :=
  fun u s' ⟨a, B, sI, pins, σ, H, cls, d, e, I, nb, up, sky, na, os, ag, w⟩ => tk u s' ⟨a, B, sI, pins, σ, H, cls, d, e, I, nb, up, sky, na, os, ag, w (I.len.trans hn)⟩
theorem pe_weak {e : Expr} {t : TE} (he : PE X e t) : PE X e (fun σ H Q => ∃ N : VK, (∀ v H', N v H' → Q v H') ∧ t σ H N) :=
  ⟨fun pins s σ H Q I ⟨N, hN, h⟩ => thn (he.run pins s σ H N I h) fun u s1 ⟨x, H1, I1, r1, q1⟩ => ⟨x, H1, I1, r1, hN _ _ q1⟩⟩
theorem lookup_name (v : V) : List.lookup ("name" : Str) [(("name" : Str), v)] = some v := by
  simp [List.lookup]
theorem len4 {α : Type} {l : List α} (h : l.length = 4) : ∃ a b c d, l = [a, b, c, d] := by
  match l, h with
  | [a, b, c, d], _ => exact ⟨a, b, c, d, rfl⟩
theorem refused_gives {g CN CS CT c1 c2 c3 c4 c5 c6 : Addr} {cdg : Value} {q : Str} (R : RfC X.K X.mg CN CS CT c1 c2 c3 c4 c5 c6) (T : Cs X.mg) : LamX.GivesTo X nRef "_law_refused" (defScope sRef) g cdg (defBody sRef) "_law_work" q (TTref CN CS) := by
  intro f c' s H Q tl act hc h
  have hTE : Names (cxOf C8.CX0 X.prog X.w X.K X.mg X.base nRef "_law_refused" (defScope sRef) g cdg X.A X.stack s H C8.E0).nox "TurnError" (.ref CT) := ⟨rfl, by decide +kernel, .inl R.gT⟩
  refine ⟨_, pss_cons (ps_set (i := 1) scRef.nd rfl (Or.inl rfl) pe_non)
    (pss_cons (ps_try_keep (i := 2) (c := .ref CT) (Wout := fun _ _ _ _ => False) (ts := fun _ _ _ => tAsg (tVar 2) (gName 1)) (tb := fun W D σ H => ∃ Ech : XK, (∀ cls d σ' H', Ech cls d H' → σ'.length = 4 → W cls d σ' H') ∧ ∃ N : VK, (∀ v H', N v H' → D.nx σ H') ∧ σ[0]? = some (some (.ref f)) ∧ H c' = some (LamX.CodeO c' q) ∧ tl Ech H N)
      rfl rfl scRef.nd rfl rfl hTE LamX.takes0 (fun W pn xe tk _ => ?_) (fun a oe cls d pn _ _ => pss_one (ps_set (i := 1) scRef.nd rfl (Or.inl rfl) (pv 2))))
    (pss_cons (ps_if (pt_cmp (pc_isN (pv 1))) (pss_one (ps_ret (pe_tup (pa_cons pe_str (pa_cons pe_non pa_nil))))) pss_nil)
    (pss_cons (ps_set (i := 3) scRef.nd rfl (Or.inl rfl) (pe_lst (pa_cons (pe_callB call_isX (by rfl) T.isi boot_isinstance (pa_cons (pv 1) (pa_cons (pe_glob (v := .ref CN) (by rfl) R.gN rfl) pa_nil))) (pa_cons (pe_callB call_isX (by rfl) T.isi boot_isinstance (pa_cons (pv 1) (pa_cons (pe_glob (v := .ref CS) (by rfl) R.gS rfl) pa_nil))) pa_nil))))
    (pss_cons (ps_if (PW.pt (pw_or (pt_cmpR op_ne (pe_bm PySem.F.plainAttrs_list PySem.F.slot_list_count PySem.F.type_list_count mt_countV (pv 3) (pa_cons pe_bl pa_nil)) pe_int (nomark _)) (pw_or1 (pt_val (pe_callB call_isXT (by rfl) T.isi boot_isinstance (pa_cons (pv 1) (pa_cons (pe_tup (pa_cons (pe_glob (v := .ref c1) (by rfl) R.g1 rfl) (pa_cons (pe_glob (v := .ref c2) (by rfl) R.g2 rfl) (pa_cons (pe_glob (v := .ref c3) (by rfl) R.g3 rfl) (pa_cons (pe_glob (v := .ref c4) (by rfl) R.g4 rfl) (pa_cons (pe_glob (v := .ref c5) (by rfl) R.g5 rfl) (pa_cons (pe_glob (v := .ref c6) (by rfl) R.g6 rfl) pa_nil))))))) pa_nil)))))))
      (pss_one (ps_ret (pe_tup (pa_cons pe_str (pa_cons pe_non pa_nil))))) pss_nil)
    (pss_cons (ps_if (pt_not (pt_val (pe_callB call_isX (by rfl) T.isi boot_isinstance (pa_cons (pv 1) (pa_cons (pe_bltn (v := .ty "ValueError") (by rfl) R.gV bootVE rfl) pa_nil))))) (pss_one (ps_ret (pe_tup (pa_cons pe_str (pa_cons pe_non pa_nil))))) pss_nil)
    (pss_one (ps_ret (pe_ifExp (pt_val (pe_ix ix_list (pv 3) pe_int (fun _ _ => rfl))) (pe_tup (pa_cons pe_str (pa_cons pe_non pa_nil))) (pe_tup (pa_cons pe_str (pa_cons (pe_xk (pv 1)) pa_nil))))))))))), ?_⟩
  · refine ⟨fun pins s' σ H' D I h' => ?_⟩
    obtain ⟨Ech, hW, N, hN, h1, h2, h3⟩ := h'
    exact (pss_one (ps_expr (pe_weak (act _ pn xe Ech _ _ (takes_len (n := 4) rfl tk) (fun cls d σ' H' h hl => hW cls d σ' H' h hl))))).run pins s' σ H' D I ⟨N, hN, h1, h2, h3⟩
  · have fin0 : ∀ {xs : List V} {H0 H1 : Hp} {p : Addr}, Tld H0 xs Q → Same H0 H1 → H1 p = none → Q (.ref p) (upd H1 p (.tup xs)) := fun {xs H0 H1 p} t s1 hp => t p _ (Same.new s1 hp) (Same.free s1 hp) upd_same
    refine ⟨_, fun cls d σ' H' hE hl => ?_, _, fun v H' hN => ?_, rfl, hc, h⟩
    · obtain ⟨a0, a1, a2, a3, rfl⟩ := len4 hl
      rcases hE with ⟨rfl, rfl, t⟩ | ⟨dd, v, rfl, rfl, hdd, t⟩
      · refine ⟨true, R.exN, fun _ a ha => ?_, fun z => Bool.noConfusion z⟩
        have sa : Same H' (upd H' a (ExcO a (.ref CN) none)) := Same.new (Same.refl H') ha
        have ea : upd H' a (ExcO a (.ref CN) none) a = some (ExcO a (.ref CN) none) := upd_same
        refine ⟨_, rfl, ?_⟩
        refine ⟨_, rfl, false, rfl, iteF ?_⟩
        refine ⟨_, rfl, a, CN, none, _, _, true, rfl, ea, trivial, R.eN, .own CN, R.nn, _, rfl, a, CN, none, _, _, false, rfl, ea, trivial, R.eN, .own CS, R.ns, (by show 2 ≤ sizeLine; decide), fun l hl => ?_⟩
        have s2 := Same.new (o := .lst [.bl true, .bl false]) (Same.refl _) hl
        refine ⟨_, rfl, .inl ⟨rfl, _, SqL.of upd_same⟩, l, _, _, rfl, rfl, SqL.of upd_same, rfl, rfl, rfl, false, rfl, iteF ?_⟩
        refine ⟨_, rfl, (by show 6 ≤ sizeLine; decide), fun tp htp => ?_⟩
        have s3 := Same.new (o := .tup [.ref c1, .ref c2, .ref c3, .ref c4, .ref c5, .ref c6]) (Same.refl _) htp
        have s23 := s2.trans s3
        refine ⟨a, CN, tp, none, _, _, false, rfl, s23 _ _ ea, trivial, R.eN, upd_same, .cons (.own c1) (.cons (.own c2) (.cons (.own c3) (.cons (.own c4) (.cons (.own c5) (.cons (.own c6) .nil))))), R.n6, false, rfl, iteF ?_⟩
        refine ⟨_, rfl, a, CN, none, _, _, true, rfl, s23 _ _ ea, trivial, R.eN, .ty "ValueError", R.nV, true, rfl, iteF ?_⟩
        refine ⟨_, rfl, l, _, 0, _, rfl, rfl, SqL.of (s3 _ _ upd_same), atI_nat (j := 0) rfl, true, rfl, ?_⟩
        exact iteT ⟨(by show 2 ≤ sizeLine; decide), fun p hp => fin0 t (sa.trans s23) hp⟩
      · refine ⟨true, R.exS, fun _ a ha => ?_, fun z => Bool.noConfusion z⟩
        have sa : Same H' (upd H' a (ExcO a (.ref CS) (some dd))) := Same.new (Same.refl H') ha
        have ea : upd H' a (ExcO a (.ref CS) (some dd)) a = some (ExcO a (.ref CS) (some dd)) := upd_same
        refine ⟨_, rfl, ?_⟩
        have hdd1 := sa _ _ hdd
        refine ⟨_, rfl, false, rfl, iteF ?_⟩
        refine ⟨_, rfl, a, CS, (some dd), _, _, false, rfl, ea, ⟨_, hdd1⟩, R.eS, .own CN, R.sn, _, rfl, a, CS, (some dd), _, _, true, rfl, ea, ⟨_, hdd1⟩, R.eS, .own CS, R.ss, (by show 2 ≤ sizeLine; decide), fun l hl => ?_⟩
        have s2 := Same.new (o := .lst [.bl false, .bl true]) (Same.refl _) hl
        refine ⟨_, rfl, .inl ⟨rfl, _, SqL.of upd_same⟩, l, _, _, rfl, rfl, SqL.of upd_same, rfl, rfl, rfl, false, rfl, iteF ?_⟩
        refine ⟨_, rfl, (by show 6 ≤ sizeLine; decide), fun tp htp => ?_⟩
        have s3 := Same.new (o := .tup [.ref c1, .ref c2, .ref c3, .ref c4, .ref c5, .ref c6]) (Same.refl _) htp
        have s23 := s2.trans s3
        refine ⟨a, CS, tp, (some dd), _, _, false, rfl, s23 _ _ ea, ⟨_, (s23 _ _ hdd1)⟩, R.eS, upd_same, .cons (.own c1) (.cons (.own c2) (.cons (.own c3) (.cons (.own c4) (.cons (.own c5) (.cons (.own c6) .nil))))), R.s6, false, rfl, iteF ?_⟩
        refine ⟨_, rfl, a, CS, (some dd), _, _, true, rfl, s23 _ _ ea, ⟨_, (s23 _ _ hdd1)⟩, R.eS, .ty "ValueError", R.sV, true, rfl, iteF ?_⟩
        refine ⟨_, rfl, l, _, 0, _, rfl, rfl, SqL.of (s3 _ _ upd_same), atI_nat (j := 0) rfl, false, rfl, ?_⟩
        exact iteF ⟨_, rfl, a, CS, dd, _, v, rfl, s23 _ _ ea, s23 _ _ hdd1, R.xf, R.fn, lookup_name v, (by show 2 ≤ sizeLine; decide), fun p hp => fin0 t (sa.trans s23) hp⟩
    · exact ⟨_, rfl, true, rfl, iteT ⟨(by show 2 ≤ sizeLine; decide), fun p hp => fin0 hN (Same.refl _) hp⟩⟩
end
end K1
set_option Elab.async false
set_option linter.all false
set_option maxRecDepth 100000
set_option maxHeartbeats 4000000
namespace PySem.W
open PySem PySem.Spec PySem.Calls PyProof.Rows
section
variable {prog : Program} {w : World} {A : Around} {E : Value → Shared → Prop} {s : Shared} {K : Frag} {x C f : Addr} {ox : Obj} {od : Option Obj} {b tb : Value}
/-- x.__ne__ is object's: bound -/
theorem bound_ne {M : Model} {args : List Value} {Q : Option Value → Shared → Prop} (Y : K.In s.heap) (J : InstAt s.heap x ox C od) (hne : findIn K (.ref C) "__ne__" = some (some (.builtin "object.__ne__")))
    (h : wpAny M A (call (.builtin "object.__ne__") (.ref x :: args)) (fun v => Q (some v)) E s) : wpAny M A (callSpecialIfBound? (.ref x) "__ne__" args) Q E s := by
  simp only [callSpecialIfBound?, bindSpecialIfBound?]
  refine wpAny_holding (wpAny_bind (wpAny_bind (wpAny_bind (J.type.here ((looks_findIn Y hne).here ?_)))))
  have fin : wpAny M A (call (.builtin "object.__ne__") ([.ref x] ++ args) >>= fun v => pure (some v)) Q E s := wpAny_bind (wpAny_mono h (fun v s' h' => wpAny_pure h') fun _ _ h' => h')
  have bd := PySem.F.cmp_object.ne.bind (.ref x)
  refine wpAny_bind (wpAny_askSetting (wpAny_ite ?_))
  split
  · exact wpAny_bind (wpAny_of_eq bd (wpAny_pure (by exact fin)))
  · exact wpAny_tryCatch (wpAny_bind (wpAny_of_eq bd (wpAny_pure (by exact fin))))
theorem entry_ne {Q : Fin → Shared → Prop} (Y : K.In s.heap) (J : InstAt s.heap x ox C od) (heq : findIn K (.ref C) "__eq__" = some (some (.ref f))) (hf : isFn K (.ref f) = true) (hu : A.units < cLine)
    (h : wpAny (model prog w) A (call (.ref f) [.ref x, b]) (fun v s' => ∃ c, v = .bool c ∧ Q (.done (.ret (.bool (!c)))) s') E s) : wpAny (model prog w) A (Builtin.«object.__ne__» ⟨[.ref x, b], []⟩) Q E s := by
  obtain ⟨hp, gg, dr, tk, os⟩ := s
  unfold Builtin.«object.__ne__»
  repeat (first
    | with_reducible refine wpAny_cRoomFor hu ?_
    | (refine wpAny_bind (m := callSpecialIfBound? (.ref x) (Str.ofString "__eq__") [b]) (ifBound_K Y J heq hf (wpAny_mono h (fun r s' hr => by
        obtain ⟨c, rfl, hq⟩ := hr
        repeat (first | exact hq | exact wpAny_pure hq | exact wpAny_truthy_bool hq | (refine wpAny_bind (m := truthy (.bool _)) (wpAny_truthy_bool ?_)) | wp_step)) fun _ _ e => e)))
    | wp_step)
/-- x != b, x of a class with an __eq__ of its own and object's __ne__ -/
theorem ne_own {Q : Value → Shared → Prop} (hu : A.units + 1 < cLine) (Y : K.In s.heap) (J : InstAt s.heap x ox C od) (hb : Looks (model prog w) s.heap (typeOf b) tb) (hn : notFirst K C tb = true)
    (hne : findIn K (.ref C) "__ne__" = some (some (.builtin "object.__ne__"))) (heq : findIn K (.ref C) "__eq__" = some (some (.ref f))) (hf : isFn K (.ref f) = true) (hm : mroIn K C (.type "object") = some true)
    (h : wpAny (model prog w) A.in1 (call (.ref f) [.ref x, b]) (fun v s' => ∃ c, v = .bool c ∧ Q (.bool (!c)) s') E s) : wpAny (model prog w) A (richCompare .NotEq (.ref x) b) Q E s := by
  have one : wpAny (model prog w) A (tryCompare (.ref x) "__ne__" b) (fun r s' => ∃ v, r = some v ∧ Q v s') E s := by
    unfold tryCompare
    refine wpAny_bind (bound_ne Y J hne (wpAny_call (codeAny_call_builtin PySem.F.cmp_object.ne.plain PySem.F.cmpEntry_ne (check_slot PySem.F.cmpKind_ne PySem.F.cmpSplit_ne (J.type.andThen (looks_mroIn Y hm)) (PySem.F.cmpArgs_ne _ _)
      (entry_ne Y J heq hf hu (wpAny_mono h (fun v s' hv => ?_) fun _ _ e => e))))))
    obtain ⟨c, rfl, hq⟩ := hv
    first
      | exact ⟨c, rfl, wpAny_pure ⟨_, rfl, hq⟩⟩
      | exact ⟨c, rfl, wpAny_pure (wpAny_pure ⟨_, rfl, hq⟩)⟩
  unfold richCompare
  simp only [oneThing_ref]
  refine wpAny_holding (wpAny_bind (wpAny_cRoomFor (Nat.lt_of_succ_lt hu) ?_))
  rw [PySem.cmpInfo_NotEq]
  dsimp only
  refine wpAny_bind (J.type.here (wpAny_bind (hb.here ?_)))
  split
  · rename_i q
    have e : subIn K tb (.ref C) = some false := by
      rcases Bool.or_eq_true_iff.mp hn with e | e
      · rw [beq_iff_eq.mp e] at q
        simp at q
      · exact beq_iff_eq.mp e
    refine wpAny_bind ((looks_subIn Y e).here ?_)
    simp only [Bool.false_eq_true, if_false]
    refine wpAny_bind (wpAny_mono one (fun r s' z => ?_) fun _ _ e => e)
    obtain ⟨v, rfl, hq⟩ := z
    exact wpAny_pure hq
  · refine wpAny_bind (wpAny_pure ?_)
    simp only [Bool.false_eq_true, if_false]
    refine wpAny_bind (wpAny_mono one (fun r s' z => ?_) fun _ _ e => e)
    obtain ⟨v, rfl, hq⟩ := z
    exact wpAny_pure hq
end
end PySem.W
namespace K1
open PySem PySem.Spec PyProof.Rows L2
/-- x == y | x != y by the __eq__ of x's own class, whatever y is -/
def rOwn (K : PySem.W.Frag) (C : Addr) (sp : Sp) (g : Bool → Bool) : R2 := fun x y H Q => ∃ (p dx : Addr) (fs : List (Str × V)) (t : Value), x = .ref p ∧ H p = some (.ins C dx fs) ∧ TyX K H y t ∧ PySem.W.notFirst K C t = true ∧ sp [x, y] H (fun v H' => ∃ b, v = .bl b ∧ Q (.bl (g b)) H') E0
section
variable {X : Cx} {C f : Addr} {fd : FuncData} {ps : List Str} {sp : Sp} {k : Nat}
theorem own_run (F : FnOk X.prog X.w X.K X.mg X.base CX0 k f fd ps sp) (hb : Binds X.K fd ps []) {A : Around} (hr : Room k A) (hfr : A.frames = X.A.frames) {pins : List (Addr × Obj)} {s : Shared} {σ : L2.St} {H : Hp} (I : Inv X pins σ H s)
    {x y : V} {u v : Value} (rx : RelV x u) (ry : RelV y v) {Q : VK} (hsp : sp [x, y] H Q E0) {R : Value → Shared → Prop} (hR : ∀ (z : V) (r : Value) (s' : Shared) (H' : Hp), Inv X pins σ H' s' → RelV z r → Q z H' → R r s') :
    wpAny (model X.prog X.w) A (call (.ref f) [u, v]) R X.xe s := by
  have e := I.env0
  have e0 : Env0 X.prog X.w X.K X.mg X.base A X.stack s H := ⟨by rw [hfr]; exact e.frames, e.mod, e.bs, e.bsz, e.funs, e.frf, e.hok, e.bare⟩
  have hl := F.len _ _ _ _ hsp
  have bd := hb s [u, v] I.kIn (by simpa using hl)
  have r2 : Vals [x, y] [u, v] := .cons rx (.cons ry .nil)
  refine wpAny_call (codeAny_mono (F.run A X.stack s H ⟨[u, v], []⟩ [u, v] [x, y] _ E0 hr e0 (by simpa using bd) r2 hsp) fun r s' hq => ?_)
  cases r with
  | error e => exact pass0 pins σ H s e s' I hq
  | ok fl =>
    cases fl with
    | ret w =>
      obtain ⟨z, H', J, rz, q⟩ := I.after hq
      exact hR z w s' H' J rz q
    | next => exact False.elim hq
    | brk => exact False.elim hq
    | cont => exact False.elim hq
theorem op_ownEq (F : FnOk X.prog X.w X.K X.mg X.base CX0 k f fd ps sp) (hs : PySem.W.findIn X.K (.ref C) "__eq__" = some (some (.ref f))) (hf : PySem.W.isFn X.K (.ref f) = true) (hb : Binds X.K fd ps []) {j : Nat} (hr : Room j X.A) (hk : k ≤ j := by decide) :
    OpR X (compareOp .Eq) (rOwn X.K C sp fun b => b) := by
  intro pins s σ H x y v u Q I rx ry h
  obtain ⟨p, dx, fs, t, rfl, hp, ty, hn, hsp⟩ := h
  cases rx
  obtain ⟨mA, O, _⟩ := ins_get I.hok hp
  obtain ⟨od, J, _⟩ := O.look
  obtain ⟨m, hF⟩ := I.fr
  obtain ⟨Z1, Z, zp, _⟩ := kit_of I ry ty
  refine PySem.W.cmp_K (op := .Eq) hr.units0 hF I.ok.mod.kin J (Z.ty _ _ I.kIn zp) hn hs hf (own_run F hb (hr.mono hk) rfl I (show L2.RelV (V.ref p) (Value.ref p) from rfl) ry hsp fun z r s' H' I' rz q => ?_)
  obtain ⟨b, rfl, q⟩ := q
  cases rz
  exact ⟨.bl b, H', I', rfl, q⟩
theorem op_ownNe (F : FnOk X.prog X.w X.K X.mg X.base CX0 k f fd ps sp) (hs : PySem.W.findIn X.K (.ref C) "__eq__" = some (some (.ref f))) (hne : PySem.W.findIn X.K (.ref C) "__ne__" = some (some (.builtin "object.__ne__"))) (hm : PySem.W.mroIn X.K C (.type "object") = some true)
    (hf : PySem.W.isFn X.K (.ref f) = true) (hb : Binds X.K fd ps []) {j : Nat} (hr : Room j X.A) (hk : k + 1 ≤ j := by decide) : OpR X (compareOp .NotEq) (rOwn X.K C sp not) := by
  intro pins s σ H x y v u Q I rx ry h
  obtain ⟨p, dx, fs, t, rfl, hp, ty, hn, hsp⟩ := h
  cases rx
  obtain ⟨mA, O, _⟩ := ins_get I.hok hp
  obtain ⟨od, J, _⟩ := O.look
  obtain ⟨Z1, Z, zp, _⟩ := kit_of I ry ty
  have hr1 : Room (k + 1) X.A := hr.mono hk
  have hr2 := hr1.in1
  refine PySem.W.ne_own (f := f) hr2.units0 I.kIn J (Z.ty _ _ I.kIn zp) hn hne hs hf hm (own_run F hb hr2 rfl I (show L2.RelV (V.ref p) (Value.ref p) from rfl) ry hsp fun z r s' H' I' rz q => ?_)
  obtain ⟨b, rfl, q⟩ := q
  cases rz
  exact ⟨b, rfl, .bl (!b), H', I', rfl, q⟩
end
end K1
set_option Elab.async false
set_option linter.all false
set_option maxRecDepth 100000
set_option maxHeartbeats 4000000
namespace K1
open PySem PySem.Spec PyProof.Rows L2
/-! ### defs that are run where no repr is under way -/
structure FnG (P : Program) (w : World) (K : PySem.W.Frag) (mg : Str → Option Value) (base : Heap) (k : Nat) (f : Addr) (fd : FuncData) (ps : List Str) (sp : Sp) : Prop where
  len : ∀ vs H Q E, sp vs H Q E → vs.length = ps.length
  run : ∀ (A : Around) (outer : List Env) (s : Shared) (H : Hp) (us : List Value) (vs : List V) (Q : VK) (E : XK), A.guards = some [] → Room k A → Env0 P w K mg base A outer s H → BindsTo s fd ⟨us, []⟩ (ps.zip us) → Vals vs us → sp vs H Q E →
    codeAny (model P w) A (.call (.ref f) ⟨us, []⟩) (CR CX0 outer P w H s Q E) s
/-- a def with its code object -/
structure FunC (K : PySem.W.Frag) (x : Str) (st : Stmt) (f : Addr) (fd : FuncData) (c : Addr) : Prop where
  ex : ∃ (oc : Value) (od : Option Addr) (kV doc pm : Value) (an : Option Addr) (ct : Value) (osl : Array (Option Value)),
    fd = PySem.W.fnOf x x (defArgs st) (defBody st) (defScope st) .none kV doc pm an (.ref c) ct ∧ K.lookup f = some ⟨oc, od, .func fd, osl⟩ ∧ PySem.W.codeIn K (.ref c) x = true
  kp : PySem.W.keepIn K (.ref f) = true
/-- a def by its name -/
structure Dg (P : Program) (w : World) (K : PySem.W.Frag) (mg : Str → Option Value) (base : Heap) (x : Str) (k : Nat) (ps : List Str) (sp : Sp) : Prop where
  ex : ∃ (f : Addr) (fd : FuncData), FnG P w K mg base k f fd ps sp ∧ mg x = some (.ref f) ∧ PySem.W.keepIn K (.ref f) = true ∧ Binds K fd ps []
section
variable {P : Program} {w : World} {K : PySem.W.Frag} {mg : Str → Option Value} {base : Heap}
theorem FunC.okG {x : Str} {st : Stmt} {f c : Addr} {fd : FuncData} {N ps : List Str} {k : Nat} {sp : Sp} (F : FunC K x st f fd c) (S : FnScope N ps (defScope st)) (len : ∀ vs H Q E, sp vs H Q E → vs.length = ps.length)
    (hbody : ∀ (A : Around) (outer : List Env) (s : Shared) (H : Hp) (vs : List V) (Q : VK) (E : XK), A.guards = some [] → Room k (A.deeper (envOfC x (defScope st) s.heap.objs.size f (.ref c))) → sp vs H Q E →
      ∃ t, PSs (cxOf CX0 P w K mg base N x (defScope st) f (.ref c) A outer s H E).nox (defBody st) t ∧ t { nx := fun _ H' => Q .non H', rt := Q } (L2.start N vs) H) : FnG P w K mg base (k + 1) f fd ps sp := by
  obtain ⟨oc, od, kV, doc, pm, an, ct, osl, rfl, lk, hcd⟩ := F.ex
  refine ⟨len, fun A outer s H us vs Q E hg hr e0 hb r hsp => LamX.run_ofS lk hcd S hr e0 hb r (len _ _ _ _ hsp) fun hr' => ?_⟩
  obtain ⟨t, h, q⟩ := hbody A outer s H vs Q E hg hr' hsp
  exact ⟨t, h.nox, q⟩
end
section
variable {X : Cx}
theorem pe_dg {x : Str} {k j : Nat} {ps : List Str} {sp : Sp} {e : Expr} {es : List Expr} {t : TA} {p pos : Pos} (D : Dg X.prog X.w X.K X.mg X.base x k ps sp) (hgd : X.A.guards = some []) (hr : Room j X.A) (ha : PA X (e :: es) t)
    (hk : k ≤ j := by decide) (hg : Gl X x := by rfl) (hdb : (x == ("__debug__" : Str)) = false := by decide) (he : starEach (e :: es) X.env = (false, eval e X.env) :: starEach es X.env := by rfl) (hpl : (backTo pos (starEach es X.env)).any (·.1) = false := by rfl) :
    PE X (.Call (.Name x p) (e :: es) [] pos) (fun σ H Q => t σ H fun vs H1 => sp vs H1 Q E0) := by
  obtain ⟨f, fd, F, hm, kp, hb⟩ := D.ex
  refine ⟨fun pins s σ H Q I h => ?_⟩
  refine wpAny_Call_Name_kw (ld_glob I hg hm ?_ hdb)
  refine PySem.W.callWith_K (h₀ := X.base) I.ok.mod.kin kp (thn (ha.run pos pins s σ H _ I h) fun us s1 hh => ?_) he hpl
  obtain ⟨vs, H1, I1, r, q⟩ := hh
  refine ⟨I1.kIn, ?_⟩
  have hl := F.len _ _ _ _ q
  have bd := hb s1 us I1.kIn (by
    rw [List.append_nil, ← r.length]
    exact hl)
  rw [List.append_nil] at bd
  refine wpAny_call (codeAny_mono (F.run X.A X.stack s1 H1 us vs Q E0 hgd (hr.mono hk) I1.env0 bd r q) fun r s' hq => ?_)
  cases r with
  | error e => exact pass0 pins σ H1 s1 e s' I1 hq
  | ok fl =>
    cases fl with
    | ret u => exact I1.after hq
    | next => exact False.elim hq
    | brk => exact False.elim hq
    | cont => exact False.elim hq
/-! ### repr of data -/
/-- data, or an empty dict -/
inductive Dx (K : PySem.W.Frag) (H : Hp) : V → PyData → Prop where
  | dat {v : V} {d : PyData} (h : Dp K H v d) (l : PyData.canLay0 d = true) : Dx K H v d
  | emp {a : Addr} (h : H a = some (.dK [])) : Dx K H (.ref a) (.dict [])
/-- data of a list or tuple; or a pair of a text and a thing -/
def rRepr (K : PySem.W.Frag) : List V → Hp → VK → Prop := fun xs H Q => ∃ (a : Addr) (d : PyData), xs = [.ref a] ∧
  ((Dp K H (.ref a) d ∧ PyData.canLay0 d = true) ∨ ∃ x y dy, d = .tuple [.str x, dy] ∧ SqT K H a [.str x, y] ∧ Dx K H y dy) ∧ PyData.showable d = true ∧ PyData.depth d ≤ 100 ∧ (PyData.shown d).length ≤ sizeLine ∧ Q (.str (PyData.shown d)) H
theorem dx_reads {pins : List (Addr × Obj)} {σ : L2.St} {H : Hp} {s : Shared} (I : Inv X pins σ H s) {v : V} {d : PyData} {u : Value} (h : Dx X.K H v d) (r : RelV v u) : ∃ as, Reads s.heap u d as ∧ (PyData.hasDict d = true → sysModules ∉ as) := by
  cases h with
  | dat h l =>
    obtain ⟨as, q⟩ := Dp.reads I d v u h r
    exact ⟨as, q, fun z => by
      rw [PyData.hasDict_of_canLay d l] at z
      cases z⟩
  | @emp a h =>
    cases r
    obtain ⟨_, hsys, vs, kv, o, es, ep, e1, e2, e3⟩ := (show ObjOk X.prog X.w H s.heap a (.dK []) from I.hok a _ h)
    have v0 : vs = [] := by
      cases kv
      rfl
    subst v0
    have z0 : es.toList = [] := by
      have z := e3.2.2.1
      cases q : es.toList with
      | nil => rfl
      | cons p r =>
        rw [q] at z
        cases z
    refine ⟨_, Reads.dict (kvs := []) e1 e2.1 e3.1 (by rw [z0]; exact .nil) (by rw [z0]; exact .nil), fun _ hm => ?_⟩
    have ha : sysModules = a := by simpa using hm
    rw [← ha] at hsys
    simp at hsys
theorem call_repr (hg : X.A.guards = some []) (hu : X.A.units + 101 < cLine) : CallR X (.builtin "repr") (rRepr X.K) := by
  intro pins s σ H xs us Q I r h
  obtain ⟨a, d, rfl, hd, hs, hdep, hlen, q⟩ := h
  rw [Vals.ref1 r]
  have fin : ∀ as, Reads s.heap (.ref a) d as → (PyData.hasDict d = true → sysModules ∉ as) → wpAny (model X.prog X.w) X.A (call (.builtin "repr") [.ref a]) (EP X pins σ Q) X.xe s := fun as rd hm =>
    repr_of_reads' rd hs hm hg (by omega) (fun _ _ e => e) (fun h' u tk hk => ⟨.str (PyData.shown d), H, I.kept hk, ⟨u, rfl⟩, q⟩) hlen
  rcases hd with ⟨hd, hl⟩ | ⟨x, y, dy, rfl, ht, hy⟩
  · obtain ⟨as, rd⟩ := Dp.reads I d (.ref a) (.ref a) hd rfl
    exact fin as rd fun z => by
      rw [PyData.hasDict_of_canLay d hl] at z
      cases z
  · obtain ⟨its, rv, ⟨o, ho, hc, n, hd⟩, _⟩ := I.tuple ht
    obtain ⟨u1, u2, rfl, r1, r2⟩ := vals2 rv
    obtain ⟨t, rfl⟩ := r1
    obtain ⟨bs, q2, m2⟩ := dx_reads I hy r2
    refine fin _ (Reads.tuple ho hc hd (ReadsAll.cons (Reads.str x t) (ReadsAll.cons q2 ReadsAll.nil))) fun z hm => ?_
    have z' : PyData.hasDict dy = true := by simpa [PyData.hasDict, PyData.hasDictAll] using z
    exact m2 z' (by simpa using hm)
end
end K1
set_option Elab.async false
set_option linter.all false
set_option maxRecDepth 100000
set_option maxHeartbeats 4000000
namespace K1
open PySem PySem.Spec PyProof.Rows L2
/-! ### the law called, where no repr is under way -/
def oTab : Obj := { cls := .none, data := .fields #[] }
/-- what is tracked at the call: the script (where the written part doesn't hold it), the tables -/
def hp0 (K : PySem.W.Frag) (a : Addr) (T : List Addr) (o : Obj) (xs : List V) : Hp := fun b => if b = a then (if K.lookup a = none then some (.frz o (.lst xs)) else none) else if b ∈ T then some (.tbl #[]) else none
section
variable {K : PySem.W.Frag} {a : Addr} {T : List Addr} {o : Obj} {xs : List V}
theorem hp0_cases (b : Addr) : hp0 K a T o xs b = none ∨ (b ∈ T ∧ b ≠ a ∧ hp0 K a T o xs b = some (.tbl #[])) ∨ (b = a ∧ K.lookup a = none ∧ hp0 K a T o xs b = some (.frz o (.lst xs))) := by
  unfold hp0
  by_cases h1 : b = a
  · by_cases h2 : K.lookup a = none
    · exact .inr (.inr ⟨h1, h2, by rw [if_pos h1, if_pos h2]⟩)
    · exact .inl (by rw [if_pos h1, if_neg h2])
  · by_cases h2 : b ∈ T
    · exact .inr (.inl ⟨h2, h1, by rw [if_neg h1, if_pos h2]⟩)
    · exact .inl (by rw [if_neg h1, if_neg h2])
theorem hp0_tab {b : Addr} (h : b ∈ T) (n : b ≠ a) : hp0 K a T o xs b = some (.tbl #[]) := by
  unfold hp0
  rw [if_neg n, if_pos h]
end
theorem law_callG {P : Program} {w : World} {K : PySem.W.Frag} {mg mb : Str → Option Value} {k : Nat} {fa a : Addr} {cs : List (Addr × Addr)} {fd : FuncData} {x : Str} {sp : Sp} {st : Shared} {us : List Value} {ns : List Int}
    (hK : K.In st.heap) (hN : st.heap.Ns mainGlobals mg) (hB : st.heap.Ns builtinsNs mb) (hBB : ∀ y : Str, y ≠ "__name__" → mb y = bootBuiltins y) (hL : st.heap.NoLimit) (hG : st.gens = #[])
    (tO : ∀ p ∈ cs, st.heap.get? p.2 = some oTab) (tK : ∀ p ∈ cs, K.lookup p.2 = none) (tC : ∀ p ∈ cs, PySem.W.CodeHd st.heap p.1 p.2)
    (hM : ∃ (m : Addr) (om : Obj), mg "__builtins__" = some (.ref m) ∧ m ≠ builtinsNs ∧ st.heap.get? m = some om ∧ om.cls = .type "module" ∧ om.dict = some builtinsNs ∧ om.data = .plain)
    (hA : st.heap.get? a = some { cls := .type "list", data := .seq us.toArray }) (hI : IntsAre us ns) (hl : ns.length ≤ sizeLine) (hr : Room k callerA)
    (F : ∀ base : Heap, K.In base → base.Ns mainGlobals mg → (∀ p ∈ cs, LamX.TabB base mg p.1 p.2) → FnG P w K mg base k fa fd [x] sp) (bd : ∀ (s : Shared) (u : Value), BindsTo s fd ⟨[u], []⟩ [(x, u)])
    (hsp : ∀ H : Hp, (∀ p ∈ cs, H p.2 = some (.tbl #[])) → SqL K H a (ns.map V.int) → sp [.ref a] H (fun v _ => v = .bl true) fun _ _ _ => False) :
    codeAny (model P w) callerA (.call (.ref fa) ⟨[.ref a], []⟩) (fun r s' => r = .ok (.ret (.bool true)) ∧ OldK st.heap s'.heap ∧ s'.os = st.os ∧ AllBare s'.gens) st := by
  have rel := vals_ints hI
  have lenU := hI.length
  generalize hT : cs.map (·.2) = T
  have inT : ∀ p ∈ cs, p.2 ∈ T := fun p hp => hT ▸ List.mem_map.mpr ⟨p, hp, rfl⟩
  have atT : ∀ b ∈ T, st.heap.get? b = some oTab := fun b hb => by
    rw [← hT] at hb
    obtain ⟨p, hp, rfl⟩ := List.mem_map.mp hb
    exact tO p hp
  have offT : ∀ b ∈ T, K.lookup b = none := fun b hb => by
    rw [← hT] at hb
    obtain ⟨p, hp, rfl⟩ := List.mem_map.mp hb
    exact tK p hp
  have naT : ∀ b ∈ T, b ≠ a := fun b hb z => by
    have q := atT b hb
    rw [z, hA] at q
    exact absurd (congrArg Obj.data (Option.some.inj q)) (by intro q; cases q)
  let ol : Obj := { cls := .type "list", data := .seq us.toArray }
  generalize hH : hp0 K a T ol (ns.map V.int) = H
  have cas : ∀ b, H b = none ∨ (b ∈ T ∧ b ≠ a ∧ H b = some (.tbl #[])) ∨ (b = a ∧ K.lookup a = none ∧ H b = some (.frz ol (.lst (ns.map V.int)))) := fun b => by
    rw [← hH]
    exact hp0_cases b
  have tabs : ∀ p ∈ cs, H p.2 = some (.tbl #[]) := fun p hp => by
    rw [← hH]
    exact hp0_tab (inT p hp) (naT _ (inT p hp))
  have lst : SqL K H a (ns.map V.int) := by
    cases q : K.lookup a with
    | none =>
      refine .inl (.inr ⟨ol, ?_⟩)
      rw [← hH]
      unfold hp0
      rw [if_pos rfl, if_pos q]
    | some o =>
      have z := hK a o q
      rw [hA] at z
      cases z
      exact .inr ⟨_, us.toArray, _, q, rfl, rfl, rfl, by rw [List.size_toArray, lenU]; exact hl, by simpa using rel⟩
  have hok : HOk P w H st.heap := fun b u e => by
    rcases cas b with z | ⟨z1, _, z2⟩ | ⟨z1, _, z2⟩
    · rw [z] at e
      cases e
    · rw [z2] at e
      cases e
      exact atT b z1
    · rw [z2] at e
      cases e
      rw [z1]
      exact ⟨hA, by rw [List.length_map]; exact hl, us, _, rel, hA⟩
  -- neither a list nor a table: not tracked
  have free : ∀ {b : Addr} {o : Obj}, st.heap.get? b = some o → (∀ vs n, o.data ≠ .seq vs n) → o.data ≠ .fields #[] → H b = none := fun {b o} e n1 n2 => by
    rcases cas b with z | ⟨z1, _, _⟩ | ⟨z1, _, _⟩
    · exact z
    · rw [atT b z1] at e
      cases e
      exact absurd rfl n2
    · rw [z1, hA] at e
      cases e
      exact absurd rfl (n1 _ _)
  have low : ∀ {b : Addr} {o : Obj}, st.heap.get? b = some o → H b = none → (hidT st.heap H).get? b = some o := fun e n => hidT_get e n
  have dct : ∀ {b : Addr} {m : Str → Option Value}, st.heap.Ns b m → (hidT st.heap H).Ns b m := fun {b m} ⟨o, es, ep, e, d, r⟩ =>
    ⟨o, es, ep, low e (free e (fun vs n z => by rw [d] at z; cases z) fun z => by rw [d] at z; cases z), d, r⟩
  have kIn : K.In (hidT st.heap H) := fun b o e => low (hK b o e) (by
    rcases cas b with z | ⟨z1, _, _⟩ | ⟨z1, z2, _⟩
    · exact z
    · rw [offT b z1] at e
      cases e
    · rw [z1, z2] at e
      cases e)
  have md : L2.Mod K mg (hidT st.heap H) := ⟨kIn, dct hN, ⟨mb, dct hB, hBB⟩, by
    obtain ⟨mc, q1, q2⟩ := hL
    exact ⟨mc, dct q1, q2⟩⟩
  have tbs : ∀ p ∈ cs, LamX.TabB (hidT st.heap H) mg p.1 p.2 := fun p hp => by
    have at0 := tO p hp
    refine ⟨?_, ?_, fun z => ?_⟩
    · obtain ⟨o, vs, file, tf, fl, tg, inF, tx, tt, q1, r1, r2, r3, rest⟩ := tC p hp
      refine ⟨o, vs, file, tf, fl, tg, inF, tx, tt, low q1 (free q1 (fun vs n z => ?_) fun z => ?_), r1, r2, r3, rest⟩
      · rw [r2] at z
        cases z
      · rw [r2] at z
        cases z
        simp at r3
    · obtain ⟨m, om, q1, q2, q3, q4, q5, q6⟩ := hM
      have n1 : m ≠ mainGlobals := fun q => by
        obtain ⟨o, es, ep, e, d, _⟩ := hN
        rw [q, e] at q3
        cases q3
        rw [d] at q6
        cases q6
      have n2 : m ≠ p.2 := fun q => by
        rw [q, at0] at q3
        cases q3
        cases q6
      refine ⟨m, om, q1, q2, n1, n2, low q3 (free q3 (fun vs n z => ?_) fun z => ?_), q4, q5, q6⟩
      · rw [q6] at z
        cases z
      · rw [q6] at z
        cases z
    · obtain ⟨o, es, ep, e, d, _⟩ := hN
      rw [z, at0] at e
      cases e
      cases d
  have ev : Env0 P w K mg (hidT st.heap H) callerA [] st H :=
    ⟨rfl, md, fun b o e => of_hidT e, Nat.le_of_eq (hidT_size _ _), trivial, fun b hb => absurd (show b ∈ ([] : List Addr) from hb) (by simp), hok, .of_eq hG⟩
  refine codeAny_mono ((F _ kIn (dct hN) tbs).run callerA [] st H [.ref a] [.ref a] _ _ rfl hr ev (bd st (.ref a)) (.cons rfl .nil) (hsp H tabs lst)) fun r s' h => ?_
  cases r with
  | error e => exact (show False from h).elim
  | ok fl =>
    cases fl with
    | next => exact False.elim h
    | brk => exact False.elim h
    | cont => exact False.elim h
    | ret u =>
      obtain ⟨v, H', os, bare, un, hok', rv, q⟩ := h
      cases (show v = .bl true from q)
      cases (show u = Value.bool true from rv)
      have keeps : ∀ b o, b ∉ T → st.heap.get? b = some o → s'.heap.get? b = some o := fun b o nb e => by
        rcases cas b with z | ⟨z1, _, _⟩ | ⟨z1, z2, z3⟩
        · exact un.keep b o e z (by intro q; exact absurd (show b ∈ ([] : List Addr) from q) (by simp)) (by simp)
        · exact absurd z1 nb
        · obtain ⟨e2, _⟩ := hok' b _ (un.frzs b _ _ z3)
          rw [z1, hA] at e
          cases e
          exact e2
      have grown : ∀ p ∈ cs, ∃ more : Array Value, s'.heap.get? p.2 = some { cls := .none, data := .fields more } := fun p hp => by
        obtain ⟨more, z⟩ := un.tbls p.2 #[] (tabs p hp)
        exact ⟨_, hok' p.2 _ z⟩
      refine ⟨rfl, ⟨fun b o e => ?_, fun b o e => ?_⟩, os, bare⟩
      · by_cases hb : b ∈ T
        · rw [← hT] at hb
          obtain ⟨p, hp, rfl⟩ := List.mem_map.mp hb
          obtain ⟨more, hm⟩ := grown p hp
          rw [tO p hp] at e
          cases e
          exact .inr (.inl ⟨((tC p hp).tab (tO p hp)).isCodeTable, rfl, #[], more, rfl, by rw [Array.empty_append]; exact hm⟩)
        · exact .inl (keeps b o hb e)
      · by_cases hb : b ∈ T
        · rw [← hT] at hb
          obtain ⟨p, hp, rfl⟩ := List.mem_map.mp hb
          obtain ⟨more, hm⟩ := grown p hp
          exact ⟨_, hm⟩
        · exact ⟨o, keeps b o hb e⟩
/-- what is known of the law at the head's heap -/
def LawG (l : PySem.W.OpenLaw) (w : World) (K : PySem.W.Frag) (k n : Nat) (x : Str) (mg : Str → Option Value) (fa : Addr) (h : Heap) : Prop :=
  ∃ (fd : FuncData) (cs : List (Addr × Addr)) (sp : Sp), (∀ p ∈ cs, h.get? p.2 = some oTab) ∧ (∀ p ∈ cs, K.lookup p.2 = none) ∧ (∀ p ∈ cs, PySem.W.CodeHd h p.1 p.2) ∧ (∀ (s : Shared) (u : Value), BindsTo s fd ⟨[u], []⟩ [(x, u)]) ∧
    (∀ (H : Hp) (a : Addr) (ns : List Int), ns.length ≤ n → (∀ p ∈ cs, H p.2 = some (.tbl #[])) → SqL K H a (ns.map V.int) → sp [.ref a] H (fun v _ => v = .bl true) fun _ _ _ => False) ∧
    ∀ base : Heap, K.In base → base.Ns mainGlobals mg → (∀ p ∈ cs, LamX.TabB base mg p.1 p.2) → FnG l.prog w K mg base k fa fd [x] sp
theorem walk_G {l : PySem.W.OpenLaw} {n k : Nat} {q : Program} {loose : List Str} {XP : (Str → Option Value) → Heap → Prop} {YP : World → Heap → Prop} {d : DefRec} {K : Params → PySem.W.Frag} {x : Str}
    (hn : l.most = some n) (hn2 : n ≤ sizeLine) (hdf : d.params.defaults = []) (hr : Room k callerA) (hY : ∀ (w : World) (h : Heap), YP w h → (K w.params).In h)
    (F : ∀ (w : World) (mg : Str → Option Value) (fa : Addr) (h : Heap), YP w h → (K w.params).In h → h.Ns mainGlobals mg → mg d.name = some (.ref fa) → LawG l w (K w.params) k n x mg fa h) :
    PySem.W.WalkO q loose XP YP l.row.toRowW d [] (fun f vs => PySem.call f vs) := by
  refine Att.attach_callB hn hdf fun w _ st mg mb fa o pm cd doc a us ns G Y _ _ _ hmg hobj hints hlen _ hgen => ?_
  have hK := hY w _ Y
  obtain ⟨fd, cs, sp, h1, h2, h3, h4, h5, h6⟩ := F w mg fa _ Y hK G.T.g hmg
  exact law_callG hK G.T.g G.T.b G.T.builtins G.T.nolimit hgen h1 h2 h3 G.T.bmain hobj hints (Nat.le_trans hlen hn2) hr h6 h4 fun H hH hS => h5 H a ns hlen hH hS
end K1
set_option Elab.async false
set_option linter.all false
set_option maxRecDepth 100000
set_option maxHeartbeats 4000000
namespace HT
open PySem PySem.Spec PyProof.Rows L2 PySem.SeqAt
section
variable {prog : Program} {w : World} {A : Around} {E : Value → Shared → Prop} {s : Shared}
theorem applied_back3 {sl : Addr} {vl vu vs : Value} {Q : Int × Int × Nat → Shared → Prop} (hs : s.heap.IsSliceOf sl vl vu vs) (pl : IsPart vl none) (pu : IsPart vu none) (ps : IsPart vs (some (-1))) (h : Q (2, -1, 3) s) :
    wpAny (model prog w) A (Builtin.Slice.sliceApplied (.ref sl) (pure (3 : Int))) Q E s := by
  obtain ⟨os, hos, hcs, hds⟩ := id hs
  unfold Builtin.Slice.sliceApplied Builtin.Slice.sliceFields
  refine wpAny_bind (wpAny_bind (wpAny_field hos hds (x := vl) rfl (wpAny_bind (wpAny_field hos hds (x := vu) rfl (wpAny_bind (wpAny_field hos hds (x := vs) rfl (wpAny_pure ?_)))))))
  refine wpAny_bind (slicePart_ ps ?_)
  show wpAny _ _ (if ((-1 : Int) == 0) = true then _ else _) _ _ s
  rw [if_neg (by decide)]
  refine wpAny_bind (slicePart_ pl (wpAny_bind (slicePart_ pu (wpAny_bind (wpAny_pure ?_)))))
  exact wpAny_pure h
theorem getItem_back3 {t sl : Addr} {a b c vl vu vs : Value} {Q : Value → Shared → Prop} (ht : IsTup s.heap t #[a, b, c]) (hs : s.heap.IsSliceOf sl vl vu vs) (pl : IsPart vl none) (pu : IsPart vu none) (ps : IsPart vs (some (-1)))
    (h : Q (.ref s.heap.objs.size) { s with heap := s.heap.push { cls := .type "tuple", data := .seq #[c, b, a] } }) : wpAny (model prog w) A (getItem (.ref t) (.ref sl)) Q E s := by
  obtain ⟨os, hos, hcs, hds⟩ := id hs
  have hTs : s.TypeIs (.ref sl) "slice" := ⟨os, hos, hcs⟩
  have room : sizeOk (.seq #[c, b, a]) := by
    show (3 : Nat) ≤ sizeLine
    decide
  unfold getItem
  try with_reducible refine wpAny_holding ?_
  first | refine wpAny_bind (wpAny_pure ?_) | skip
  refine wpAny_bind (wpAny_sequenceKey ht.typeIs (by decide) ?_)
  refine wpAny_bind (wpAny_callSpecial?_slot (name := Str.ofString "__getitem__") ht.typeIs slot_tuple_getitem (wpAny_call_entry slot_tuple_getitem ht.typeIs entry_tuple_getitem ?_ (args_tuple_getitem _ _)))
  show wpAny _ _ (Builtin.Tuple.tupleItemsOf (.ref t) >>= _) _ _ s
  refine wpAny_bind (tupleItemsOf_ ht (wpAny_bind (wpAny_typeOf hTs ?_)))
  rw [if_pos (by decide)]
  refine wpAny_bind (applied_back3 hs pl pu ps ?_)
  show wpAny _ _ (if ((2 : Int) == 0 && (-1 : Int) == 1 && (3 : Nat) == 3) = true then _ else _) _ _ s
  rw [if_neg (by decide)]
  first
    | exact wpAny_bind (m := Builtin.Tuple.tupleExact _) (wpAny_newObj_type (wpAny_pure ⟨_, rfl, wpAny_pure h⟩) room)
    | exact wpAny_bind (m := Builtin.Tuple.tupleExact _) (wpAny_newObj_type (wpAny_bind (wpAny_pure (wpAny_pure ⟨_, rfl, wpAny_pure h⟩))) room)
    | exact wpAny_bind (wpAny_bind (m := Builtin.Tuple.tupleExact _) (wpAny_newObj_type (wpAny_pure (wpAny_pure ⟨_, rfl, wpAny_pure h⟩)) room))
    | exact wpAny_bind (wpAny_bind (m := Builtin.Tuple.tupleExact _) (wpAny_newObj_type (wpAny_pure ⟨_, rfl, wpAny_pure h⟩) room))
end
end HT
namespace K1
open PySem PySem.Spec PyProof.Rows L2
/-! ### t[::-1], t a triple -/
def tBack3 (K : PySem.W.Frag) (te : TE) : TE := fun σ H Q => te σ H fun v H1 => ∃ a x y z, v = .ref a ∧ SqT K H1 a [x, y, z] ∧ ∀ p, H1 p = none → Q (.ref p) (upd H1 p (.tup [z, y, x]))
theorem vals3 {x y z : V} {us : List Value} (r : Vals [x, y, z] us) : ∃ a b c, us = [a, b, c] ∧ RelV x a ∧ RelV y b ∧ RelV z c := by
  cases r with
  | cons r1 t =>
    cases t with
    | cons r2 t =>
      cases t with
      | cons r3 t =>
        cases t
        exact ⟨_, _, _, rfl, r1, r2, r3⟩
theorem pe_back3 {X : Cx} {e : Expr} {te : TE} {k : Nat} {p1 p2 p3 pos : Pos} (he : PE X e te) : PE X (.Subscript e (.Slice none none (some (.UnaryOp .USub (.Constant (.int 1) k p1) p2)) p3) pos) (tBack3 X.K te) := by
  refine ⟨fun pins s σ H Q I h => Subscript_ (thn (he.run pins s σ H _ I h) fun v s1 hh => ?_)⟩
  obtain ⟨v0, H1, I1, r1, a, x, y, z, ev, hx, q⟩ := hh
  subst ev
  cases r1
  have minus : PO X (some (.UnaryOp .USub (.Constant (.int 1) k p1) p2)) (tPart (tUn (rU fun i => .int (-i)) (tC (.int 1)))) := po_some (pe_un un_neg pe_int)
  refine wpAny_Slice (thn (po_none.run pins s1 σ H1 (fun o H2 => o = none ∧ H2 = H1) I1 ⟨rfl, rfl⟩) fun vl s2 h2 => ?_)
  obtain ⟨l, H2, I2, pl, rfl, rfl⟩ := h2
  refine thn (po_none.run pins s2 σ H2 (fun o H3 => o = none ∧ H3 = H2) I2 ⟨rfl, rfl⟩) fun vu s3 h3 => ?_
  obtain ⟨u, H3, I3, pu, rfl, rfl⟩ := h3
  refine thn (minus.run pins s3 σ H3 (fun o H4 => o = some (-1) ∧ H4 = H3) I3 ⟨1, rfl, -1, rfl, rfl, rfl⟩) fun vs s4 h4 => ?_
  obtain ⟨o, H4, I4, ps, rfl, rfl⟩ := h4
  let sb : Obj := { cls := .type "slice", data := .fields #[vl, vu, vs] }
  have I5 : Inv X pins σ H4 { s4 with heap := s4.heap.push sb } := I4.kept (t' := s4.toks) fun b ob q => Heap.get?_push_of_some _ q
  obtain ⟨its, r, ht, hz⟩ := I5.tuple hx
  obtain ⟨ua, ub, uc, rfl, ra, rb, rc⟩ := vals3 r
  show wpAny (model X.prog X.w) X.A (subscriptTail e (.Slice none none (some (.UnaryOp .USub (.Constant (.int 1) k p1) p2)) p3) (.ref a) (.ref s4.heap.objs.size)) (EP X pins σ Q) X.xe { s4 with heap := s4.heap.push sb }
  refine tail_any (ops := [.ref a, .ref s4.heap.objs.size]) ht.typeIs slot_tuple_getitem.lookup ?_ (by with_unfolding_all rfl)
  refine HT.getItem_back3 ht (Heap.IsSliceOf.new _ vl vu vs) pl pu ps ?_
  refine ⟨.ref _, _, I5.laid (t' := s4.toks) (o := .tup [z, y, x]) (fun b ob q => Heap.get?_push_of_some _ q) (Nat.le_refl _) ?_, rfl, q _ (I5.hok.fresh (Nat.le_refl _))⟩
  exact ⟨(by show 3 ≤ sizeLine; decide), [uc, ub, ua], .cons rc (.cons rb (.cons ra .nil)), IsTup.new _ _⟩
end K1
set_option Elab.async false
set_option linter.all false
set_option maxRecDepth 100000
set_option maxHeartbeats 4000000
namespace K1
open PySem PySem.Spec PyProof.Rows L2
/-! ### data of a small depth -/
def prt (n : Nat) (d : PyData) : Bool := fineD d && (PyData.canLay0 d && decide (PyData.depth d ≤ n))
theorem prt_iff {n : Nat} {d : PyData} : prt n d = true ↔ fineD d = true ∧ PyData.canLay0 d = true ∧ PyData.depth d ≤ n := by
  unfold prt
  rw [Bool.and_eq_true, Bool.and_eq_true, decide_eq_true_iff]
theorem prt_part {n : Nat} {d : PyData} (h : prt n d = true) (hn : n ≤ 20) : partD d = true := by
  obtain ⟨h1, h2, h3⟩ := prt_iff.mp h
  exact prt_iff (n := 20).mpr ⟨h1, h2, Nat.le_trans h3 hn⟩
theorem prt_mono {n m : Nat} {d : PyData} (h : prt n d = true) (hn : n ≤ m) : prt m d = true := by
  obtain ⟨h1, h2, h3⟩ := prt_iff.mp h
  exact prt_iff.mpr ⟨h1, h2, Nat.le_trans h3 hn⟩
theorem prt_ok {n : Nat} {d : PyData} (h : prt n d = true) (hn : n ≤ 64) : okD d = true := by
  obtain ⟨h1, h2, h3⟩ := prt_iff.mp h
  exact ok_of h2 h1 (Nat.le_trans h3 hn)
theorem prt_tup {n : Nat} {ds : List PyData} (h : ∀ e ∈ ds, prt n e = true) (hl : ds.length ≤ 1000) : prt (n + 1) (.tuple ds) = true := by
  refine prt_iff.mpr ⟨?_, ?_, ?_⟩
  · show (decide (ds.length ≤ 1000) && fineAll ds) = true
    rw [decide_eq_true hl, fineAll_of fun e he => (prt_iff.mp (h e he)).1]
    rfl
  · simp only [PyData.canLay0]
    exact layAll_of fun e he => (prt_iff.mp (h e he)).2.1
  · have := depAll_of (n := n) fun e he => (prt_iff.mp (h e he)).2.2
    simp only [PyData.depth]
    omega
theorem prt_lst {n : Nat} {ds : List PyData} (h : ∀ e ∈ ds, prt n e = true) (hl : ds.length ≤ 1000) : prt (n + 1) (.list ds) = true := by
  refine prt_iff.mpr ⟨?_, ?_, ?_⟩
  · show (decide (ds.length ≤ 1000) && fineAll ds) = true
    rw [decide_eq_true hl, fineAll_of fun e he => (prt_iff.mp (h e he)).1]
    rfl
  · simp only [PyData.canLay0]
    exact layAll_of fun e he => (prt_iff.mp (h e he)).2.1
  · have := depAll_of (n := n) fun e he => (prt_iff.mp (h e he)).2.2
    simp only [PyData.depth]
    omega
theorem prt_str {s : Str} (h : s.length ≤ 1000) (hs : PyData.strOk s = true) : prt 1 (.str s) = true := by
  refine prt_iff.mpr ⟨decide_eq_true h, ?_, ?_⟩
  · simpa [PyData.canLay0] using hs
  · simp [PyData.depth]
theorem prt_int (m : Int) : prt 1 (.int m) = true := prt_iff.mpr ⟨rfl, by simp [PyData.canLay0], by simp [PyData.depth]⟩
theorem sign_row {e : PyData} (ho : okD e = true) (hs : signD e = true) : ∃ s y m, e = .tuple [.str s, .str y, .int m] ∧ nameB s = true ∧ y.length ≤ 1000 ∧ PyData.strOk y = true := by
  obtain ⟨s, k, m, rfl, hn⟩ := signD_shape hs
  cases q : isStr k with
  | false =>
    rw [signD_kstr q] at hs
    cases hs
  | true =>
    cases k with
    | str y =>
      have h1 := tup_at (i := 1) ho rfl
      exact ⟨s, y, m, rfl, hn, ok_str h1.1, ok_strOk h1.1⟩
    | _ => cases q
theorem row_prt {s y : Str} {m : Int} (hn : nameB s = true) (hl : y.length ≤ 1000) (hy : PyData.strOk y = true) : prt 2 (.tuple [.str s, .str y, .int m]) = true := by
  have nl := name_len hn
  refine prt_tup (n := 1) (fun e he => ?_) (by show 3 ≤ 1000; decide)
  simp only [List.mem_cons, List.not_mem_nil, or_false] at he
  rcases he with rfl | rfl | rfl
  · exact prt_str (by omega) (name_strOk hn)
  · exact prt_str hl hy
  · exact prt_int m
theorem upper_ok {w : Str} (h : nameB w = true) : (Txt.upper w).length ≤ 8 ∧ PyData.strOk (Txt.upper w) = true := by
  have nl := name_len h
  have lo : ∀ c ∈ w.cps.toList, 97 ≤ c ∧ c ≤ 122 := fun c hc => by
    unfold nameB at h
    rw [Bool.and_eq_true, List.all_eq_true] at h
    have := h.2 c hc
    unfold isLow at this
    rwa [decide_eq_true_iff] at this
  have e : Txt.upper w = ⟨w.cps.map PyProof.Rows.up1⟩ := PyProof.Rows.upper_ascii (x := w) (fun c hc => by
    have := lo c hc
    omega)
  rw [e]
  refine ⟨?_, ?_⟩
  · show (w.cps.map PyProof.Rows.up1).size ≤ 8
    rw [Array.size_map]
    exact nl.2
  · show (w.cps.map PyProof.Rows.up1).all (· < 0x110000) = true
    rw [Array.all_eq_true_iff_forall_mem]
    intro c hc
    obtain ⟨b, hb, rfl⟩ := Array.mem_map.mp hc
    have := lo b (by simpa using hb)
    unfold PyProof.Rows.up1
    rw [decide_eq_true_iff]
    split <;> omega
/-! ### slices at a place -/
theorem cut_to {xs : List V} {n : Nat} (h : n ≤ xs.length) : cutV xs none (some (n : Int)) = xs.take n := by
  unfold cutV
  rw [HT.sIx_none, HT.sIx_nat, Nat.min_eq_left h]
  rfl
theorem cut_from {xs : List V} {n : Nat} (h : n ≤ xs.length) : cutV xs (some (n : Int)) none = xs.drop n := by
  unfold cutV
  rw [HT.sIx_none, HT.sIx_nat, Nat.min_eq_left h]
  exact List.take_of_length_le (by rw [List.length_drop]; omega)
theorem cut_at {xs : List V} {n : Nat} (h : n < xs.length) : cutV xs (some (n : Int)) (some ((n : Int) + 1)) = (xs.drop n).take 1 := by
  have e : ((n : Int) + 1) = ((n + 1 : Nat) : Int) := by omega
  unfold cutV
  rw [e, HT.sIx_nat, HT.sIx_nat, Nat.min_eq_left (by omega), Nat.min_eq_left (by omega)]
  congr 1
  omega
theorem dpAll_take {K : PySem.W.Frag} {H : Hp} : ∀ {vs : List V} {ds : List PyData} (n : Nat), DpAll K H vs ds → DpAll K H (vs.take n) (ds.take n)
  | _, _, 0, _ => .nil
  | _, _, n + 1, .nil => .nil
  | _, _, n + 1, .cons h t => .cons h (dpAll_take n t)
theorem dpAll_drop {K : PySem.W.Frag} {H : Hp} : ∀ {vs : List V} {ds : List PyData} (n : Nat), DpAll K H vs ds → DpAll K H (vs.drop n) (ds.drop n)
  | _, _, 0, h => h
  | _, _, n + 1, .nil => .nil
  | _, _, n + 1, .cons h t => dpAll_drop n t
theorem dpAll_app {K : PySem.W.Frag} {H : Hp} : ∀ {vs us : List V} {ds es : List PyData}, DpAll K H vs ds → DpAll K H us es → DpAll K H (vs ++ us) (ds ++ es)
  | _, _, _, _, .nil, h => h
  | _, _, _, _, .cons h t, h' => .cons h (dpAll_app t h')
end K1
set_option Elab.async false
set_option linter.all false
set_option maxRecDepth 100000
set_option maxHeartbeats 4000000
namespace K1
open PySem PySem.Spec PyProof.Rows L2
abbrev sSpoilt : Stmt := topS 30
abbrev nSp : List Str := ["_law_state", "_law_lines", "_law_way", "_law_found", "_law_row", "_law_at", "_law_word", "_law_kind", "_law_many", "_law_odd", "_law_picks"]
theorem scSp : FnScope nSp ["_law_state", "_law_lines"] (defScope sSpoilt) := ⟨rfl, rfl, rfl, by decide +kernel, rfl, by decide +kernel, by decide +kernel⟩
def spSpoilt (K : PySem.W.Frag) : Sp := fun vs H Q _ => ∃ (d g c l : Addr) (t : Nat) (xs : List V) (ds : List PyData), vs = [.ref d, .ref l] ∧ Gen d g c t H ∧ t + 50 < 2 ^ 30 ∧ SqL K (hid [d, g] H) l xs ∧ DpAll K (hid [d, g] H) xs ds ∧ okD (.list ds) = true ∧ ds.all signD = true ∧ ds ≠ [] ∧ ds.length ≤ 40 ∧
  ∀ (v : V) (e : PyData) (H' : Hp), Dm K (hid [d, g] H') v e → okD e = true → (∀ es, e = .list es → es.length ≤ ds.length + 1) → Gen d g c (t + 50) H' → Kp d g H H' → Q v H'
theorem hid_get {d g x : Addr} {H : Hp} {o : HO} (xd : x ≠ d) (xg : x ≠ g) (e : H x = some o) : hid [d, g] H x = some o := by
  rw [hid_at (by simp only [List.mem_cons, List.not_mem_nil, or_false, not_or]; exact ⟨xd, xg⟩)]
  exact e
theorem hid_kp2 {d g : Addr} {H H' : Hp} (k : Kp d g H H') : Same (hid [d, g] H) (hid [d, g] H') := hid_kp k (by simp) (by simp)
theorem last_at {xs : List V} (h : 0 < xs.length) : ∃ x, atI xs (-1) = some x ∧ xs[xs.length - 1]? = some x := by
  have hne : xs ≠ [] := List.length_pos_iff.mp h
  have e : xs = xs.dropLast ++ [xs.getLast hne] := (List.dropLast_concat_getLast hne).symm
  refine ⟨xs.getLast hne, (congrArg (fun z => atI z (-1)) e).trans (atI_last _ _), ?_⟩
  rw [← List.getLast?_eq_getElem?]
  exact List.getLast?_eq_getLast hne
theorem pow30 : CPow 10 30 := ⟨by decide, by decide, by decide⟩
section
variable {P : Program} {w : World} {K : PySem.W.Frag} {mg : Str → Option Value} {base : Heap}
theorem ok_spoilt {f : Addr} {fd : FuncData} (F : Fun K "_law_spoilt" "_law_spoilt" sSpoilt f fd) (DT : Df P w K mg base CX0 "_law_take" 2 ["_law_state", "_law_size"] spTake) (DP : Df P w K mg base CX0 "_law_pick" 3 ["_law_state", "_law_picks"] spPick) (T : Cs mg) : FnOk P w K mg base CX0 4 f fd ["_law_state", "_law_lines"] (spSpoilt K) := by
  refine F.ok scSp (fun vs H Q E h => ?_) (fun cdv A outer s H vs Q E hr h => ?_)
  · obtain ⟨d, g, c, l, t, xs, ds, rfl, _⟩ := h
    rfl
  · obtain ⟨d, g, c, l, t, xs, ds, rfl, G, ht, hS, hA, od, hsg, hne, hlen, k⟩ := h
    refine ⟨_, pss_cons (ps_set (i := 2) scSp.nd rfl (Or.inl rfl) (pe_df DT hr pass0 (pa_cons (pv 0) (pa_cons pe_int pa_nil))))
      (pss_cons (ps_if (pt_cmpR op_eq (pv 2) pe_int (nomark _))
        (pss_cons (ps_set (i := 3) scSp.nd rfl (Or.inl rfl) (pe_callTy (call_dictP rfl) (by rfl) T.dict boot_dict (pa_cons (pe_lc (own := [("_law_row", 4)]) (g := gName 4) (tt := tYes) (te := tTup (tCons (tOp (rIxT K) (tVar 4) (tC (.int 0))) (tCons (tVar 4) tNil))) rfl scSp.nd (pi_list (pv 1)) (blkOk_by (N := nSp) (sc := defScope sSpoilt) (by decide +kernel)) (fun _ _ _ _ _ => pg_name (i := 4) scSp.nd rfl (Or.inl rfl))
            (fun _ _ _ _ _ => pts_nil) (fun _ _ _ _ _ => pe_tup (pa_cons (pe_ix ix_tup (pv 4) pe_int (fun _ _ => rfl)) (pa_cons (pv 4) pa_nil)))) pa_nil)))
        (pss_one (ps_ret (pe_df DP hr pass0 (pa_cons (pv 0) (pa_cons (pe_lst (pa_cons pe_non (pa_cons pe_dnewK (pa_cons (pe_tup pa_nil) (pa_cons (pe_lst pa_nil) (pa_cons pe_str (pa_cons pe_int (pa_cons pe_bl (pa_cons (pv 3) (pa_cons (pe_lst (pa_cons (pv 1) pa_nil)) pa_nil)))))))))) pa_nil)))))) pss_nil)
      (pss_cons (ps_set (i := 5) scSp.nd rfl (Or.inl rfl) (pe_df DT hr pass0 (pa_cons (pv 0) (pa_cons (pe_callB call_len_seq (by rfl) T.len PySem.boot_len (pa_cons (pv 1) pa_nil)) pa_nil))))
      (pss_cons (ps_asg (pe_ix ix_list (pv 1) (pv 5) (fun _ _ => rfl)) (pg_tup rfl (pgs_cons (pg_name (i := 6) scSp.nd rfl (Or.inl rfl)) (pgs_cons (pg_name (i := 7) scSp.nd rfl (Or.inl rfl)) (pgs_cons (pg_name (i := 8) scSp.nd rfl (Or.inl rfl)) pgs_nil)))))
      (pss_cons (ps_if (pt_cmpR op_eq (pv 2) pe_int (nomark _))
        (pss_one (ps_ret (pe_op op_cat (pe_op op_cat (pe_slice sl_list (pv 1) po_none (po_some (pv 5))) (pe_slice sl_list (pv 1) (po_some (pv 5)) (po_some (pe_op op_add (pv 5) pe_int)))) (pe_slice sl_list (pv 1) (po_some (pv 5)) po_none)))) pss_nil)
      (pss_cons (ps_if (pt_cmpR op_eq (pv 2) pe_int (nomark _))
        (pss_cons (ps_set (i := 9) scSp.nd rfl (Or.inl rfl) (pe_lst (pa_cons (pe_callTy call_list_of (by rfl) T.list boot_list (pa_cons (pe_ix ix_list (pv 1) (pv 5) (fun _ _ => rfl)) pa_nil)) (pa_cons (pe_slice sl_tupA (pe_ix ix_list (pv 1) (pv 5) (fun _ _ => rfl)) po_none (po_some pe_int)) (pa_cons (pe_op op_catA (pe_ix ix_list (pv 1) (pv 5) (fun _ _ => rfl)) (pe_tup (pa_cons pe_int pa_nil))) (pa_cons pe_non (pa_cons (pe_tup pa_nil) (pa_cons (pv 6) pa_nil))))))))
        (pss_cons (ps_set (i := 9) scSp.nd rfl (Or.inl rfl) (pe_op op_cat (pv 9) (pe_lst (pa_cons (pe_tup (pa_cons (pv 6) (pa_cons (pe_tup (pa_cons (pv 7) (pa_cons (pv 8) pa_nil))) pa_nil))) (pa_cons (pe_back3 (pe_ix ix_list (pv 1) (pv 5) (fun _ _ => rfl))) pa_nil)))))
        (pss_one (ps_ret (pe_op op_cat (pe_op op_cat (pe_slice sl_list (pv 1) po_none (po_some (pv 5))) (pe_lst (pa_cons (pe_df DP hr pass0 (pa_cons (pv 0) (pa_cons (pv 9) pa_nil))) pa_nil))) (pe_slice sl_list (pv 1) (po_some (pe_op op_add (pv 5) pe_int)) po_none)))))) pss_nil)
      (C8.pss_cut (ps_if (pt_cmpR op_lt (pv 2) pe_int (nomark _))
        (pss_cons (ps_set (i := 10) scSp.nd rfl (Or.inl rfl) (pe_lst (pa_cons pe_str (pa_cons pe_str (pa_cons pe_str (pa_cons pe_str (pa_cons pe_str (pa_cons pe_str (pa_cons pe_str (pa_cons pe_non (pa_cons pe_int (pa_cons pe_bl (pa_cons (pe_tup (pa_cons (pv 6) pa_nil)) pa_nil)))))))))))))
        (pss_one (ps_set (i := 6) scSp.nd rfl (Or.inl rfl) (pe_df DP hr pass0 (pa_cons (pv 0) (pa_cons (pe_op op_cat (pv 10) (pe_lst (pa_cons (pe_ix ix_tup (pe_ix ix_list (pv 1) pe_int (fun _ _ => rfl)) pe_int (fun _ _ => rfl)) (pa_cons (pe_ix ix_tup (pe_ix ix_list (pv 1) (pe_un un_neg pe_int) (fun _ _ => rfl)) pe_int (fun _ _ => rfl)) (pa_cons pe_str (pa_cons (pe_upper (pv 6)) pa_nil)))))) pa_nil))))))
        (pss_one (ps_if (pt_cmpR op_lt (pv 2) pe_int (nomark _))
          (pss_one (ps_set (i := 7) scSp.nd rfl (Or.inl rfl) (pe_df DP hr pass0 (pa_cons (pv 0) (pa_cons (pe_lst (pa_cons pe_str (pa_cons pe_str (pa_cons pe_str (pa_cons pe_str (pa_cons pe_str (pa_cons pe_str (pa_cons pe_non (pa_cons pe_int (pa_cons pe_str (pa_cons (pe_tup (pa_cons pe_str pa_nil)) (pa_cons pe_str pa_nil)))))))))))) pa_nil)))))
          (pss_one (ps_set (i := 8) scSp.nd rfl (Or.inl rfl) (pe_df DP hr pass0 (pa_cons (pv 0) (pa_cons (pe_lst (pa_cons pe_int (pa_cons pe_int (pa_cons pe_int (pa_cons pe_int (pa_cons pe_int (pa_cons pe_int (pa_cons (pe_un un_neg pe_int) (pa_cons pe_bl (pa_cons pe_bl (pa_cons pe_non (pa_cons pe_str (pa_cons (pe_tup (pa_cons pe_int pa_nil)) (pa_cons (pe_op op_pow pe_int pe_int) pa_nil)))))))))))))) pa_nil))))))))
      (pss_one (ps_ret (pe_op op_cat (pe_op op_cat (pe_slice sl_list (pv 1) po_none (po_some (pv 5))) (pe_lst (pa_cons (pe_tup (pa_cons (pv 6) (pa_cons (pv 7) (pa_cons (pv 8) pa_nil)))) pa_nil))) (pe_slice sl_list (pv 1) (po_some (pe_op op_add (pv 5) pe_int)) po_none)))))))))), ?_⟩
    refine ⟨_, rfl, d, g, c, _, 12, rfl, G, by omega, by decide, by decide, fun way H1 w0 w1 G1 k1 => ?_⟩
    have q01 := hid_kp2 k1
    have hS1 := q01.seq hS
    have hA1 := dp_sameAll q01 _ _ hA
    have hlx := dpAll_len hA
    have lS1 : SqL K H1 l xs := hid_le.seq hS1
    have rowAt : ∀ (i : Nat) (x : V) (e : PyData), xs[i]? = some x → ds[i]? = some e → ∀ H', Same (hid [d, g] H1) (hid [d, g] H') → ∃ b s y m, x = .ref b ∧ e = .tuple [.str s, .str y, .int m] ∧ SqT K (hid [d, g] H') b [.str s, .str y, .int m] ∧ nameB s = true ∧ y.length ≤ 1000 ∧ PyData.strOk y = true := by
      intro i x e hx he H' sm
      obtain ⟨e', he', hd⟩ := dp_at' hA1 hx
      rw [he] at he'
      cases he'
      obtain ⟨s, y, m, rfl, hn, hy, hys⟩ := sign_row (lst_at od he).1 (List.all_eq_true.mp hsg e (List.mem_of_getElem? he))
      obtain ⟨b, vk, vm, rfl, hb, hk, hm⟩ := row_of (dp_same sm _ _ hd)
      cases hk
      cases hm
      exact ⟨b, s, y, m, rfl, rfl, hb, hn, hy, hys⟩
    have prts : ∀ e ∈ ds, prt 2 e = true := fun e he => by
      obtain ⟨i, hi⟩ := List.getElem?_of_mem he
      obtain ⟨s, y, m, rfl, hn, hy, hys⟩ := sign_row (lst_at od hi).1 (List.all_eq_true.mp hsg e he)
      exact row_prt hn hy hys
    refine ⟨_, rfl, rfl, _, rfl, ?_⟩
    refine ite2 (fun hw => ?_) (fun hw => ?_)
    · -- another thing
      refine ⟨_, rfl, l, rfl, ⟨_, lS1⟩, fun D hD => lc_list (K := K) (a := l) (xs := xs) (fun i H6 => Same H1 H6 ∧ ∃ (ps : List Addr) (kvs : List (Key × V)), ps.length = i ∧ H6 D = some (.lst (ps.map V.ref)) ∧ Paired (fun p kv => SqT K H6 p [kV kv.1, kv.2]) ps kvs)
        ⟨Same.new (Same.refl H1) hD, [], [], rfl, upd_same, .nil⟩ (fun i H6 _ ⟨z, _⟩ => z.seq lS1) ?_ ?_⟩
      · rintro i x H6 hi ⟨s6, ps, kvs, lp, eD, hP⟩
        have hil := (List.getElem?_eq_some_iff.mp hi).1
        obtain ⟨b, s, y, m, rfl, he, hb, _⟩ := rowAt i x ds[i] hi (List.getElem?_eq_getElem (by omega)) H6 (hid_same s6)
        refine ⟨rfl, ⟨_, rfl, b, _, 0, _, rfl, rfl, sqt_same hid_le hb, atI_nat (j := 0) rfl, _, rfl, (by show 2 ≤ sizeLine; decide), fun q hq => ⟨_, (Same.new (Same.refl _) hq) _ _ eD, ?_, ?_, ps ++ [q], kvs ++ [(Sum.inr s, .ref b)], ?_, ?_, ?_⟩⟩⟩
        · rw [List.length_map, sizeLine_eq]
          omega
        · have s7 := Same.new (o := .tup [.str s, .ref b]) s6 hq
          exact fun c o e => by
            rw [upd_ne (ne_of_none e hD)]
            exact s7 c o e
        · rw [List.length_append, lp]
          rfl
        · rw [upd_same, List.map_append]
          rfl
        · have nDq : D ≠ q := ne_of_none eD hq
          have up : ∀ {p : Addr} {zs : List V}, SqT K H6 p zs → SqT K (upd (upd H6 q (.tup [.str s, .ref b])) D (.lst (ps.map V.ref ++ [.ref q]))) p zs := fun {p zs} z => by
            rcases z with (z | ⟨o, z⟩) | z
            · refine .inl (.inl ?_)
              rw [upd_ne (fun q2 => by rw [q2, eD] at z; cases z)]
              exact Same.new (Same.refl _) hq _ _ z
            · refine .inl (.inr ⟨o, ?_⟩)
              rw [upd_ne (fun q2 => by rw [q2, eD] at z; cases z)]
              exact Same.new (Same.refl _) hq _ _ z
            · exact .inr z
          have app : ∀ {ps' : List Addr} {kvs' : List (Key × V)}, Paired (fun p (kv : Key × V) => SqT K H6 p [kV kv.1, kv.2]) ps' kvs' → Paired (fun p (kv : Key × V) => SqT K (upd (upd H6 q (.tup [.str s, .ref b])) D (.lst (ps.map V.ref ++ [.ref q]))) p [kV kv.1, kv.2]) (ps' ++ [q]) (kvs' ++ [(Sum.inr s, .ref b)]) := by
            intro ps' kvs' z
            induction z with
            | nil => exact .cons (SqT.of (by rw [upd_ne nDq.symm, upd_same]; rfl)) .nil
            | cons h t ih => exact .cons (up h) ih
          exact app hP
      · rintro H6 ⟨s6, ps, kvs, lp, eD, hP⟩
        refine ⟨D, ps, kvs, rfl, SqL.of eD, hP, fun fa hfa => ?_⟩
        refine ⟨_, rfl, fun e he => ⟨(by show 0 ≤ sizeLine; decide), fun p1 hp1 => ⟨(by show 0 ≤ sizeLine; decide), fun p2 hp2 => ⟨_, rfl, _, rfl, (by show 1 ≤ sizeLine; decide), fun p3 hp3 => ⟨(by show 9 ≤ sizeLine; decide), fun p4 hp4 => ?_⟩⟩⟩⟩⟩
        have sN := Same.new (o := .lst [.non, .ref e, .ref p1, .ref p2, .str "signs", .int 5, .bl true, .ref fa, .ref p3]) (Same.new (o := .lst [.ref l]) (Same.new (o := .lst []) (Same.new (o := .tup []) (Same.new (o := .dK []) (Same.new (o := .dK (mergeK [] kvs)) s6 hfa) he) hp1) hp2) hp3) hp4
        have G9 := G1.same sN
        have n4 := (((((G1.same s6).new hfa).new he).new hp1).new hp2).new hp3 |>.nd hp4
        refine ⟨d, g, c, p4, _, _, rfl, G9, by omega, upd_same, n4.2, (by intro z; cases z), (by show 9 < 2 ^ 50; decide), fun v H' hv G' k' => ?_⟩
        have kH : Kp d g H H' := (k1.trans (Kp.of sN)).trans k'
        have qN : Same (hid [d, g] H1) (hid [d, g] H') := (hid_same sN).trans (hid_kp2 k')
        have fin : ∀ (e : PyData), Dm K (hid [d, g] H') v e → okD e = true → (∀ es, e = .list es → es.length ≤ ds.length + 1) → Q v H' := fun e h1 h2 h3 => k v e H' h1 h2 h3 (G'.mono (by omega)) kH
        have t4 := hp4
        have f3 := Same.new (o := .lst [.non, .ref e, .ref p1, .ref p2, .str "signs", .int 5, .bl true, .ref fa, .ref p3]) (Same.refl _) hp4
        have f2 := Same.new (o := .lst [.ref l]) (Same.refl _) hp3
        have f1 := Same.new (o := .lst []) (Same.refl _) hp2
        have f0 := Same.new (o := .tup []) (Same.refl _) hp1
        have fe := Same.new (o := .dK []) (Same.refl _) he
        have at_ : ∀ {x : Addr} {o : HO}, x ≠ d → x ≠ g → (upd (upd (upd (upd (upd (upd H6 fa (.dK (mergeK [] kvs))) e (.dK [])) p1 (.tup [])) p2 (.lst [])) p3 (.lst [.ref l])) p4 (.lst [.non, .ref e, .ref p1, .ref p2, .str "signs", .int 5, .bl true, .ref fa, .ref p3])) x = some o → hid [d, g] H' x = some o := fun xd xg q => hid_get xd xg (k' _ _ xd xg q)
        simp only [List.mem_cons, List.not_mem_nil, or_false] at hv
        have n3 := ((((G1.same s6).new hfa).new he).new hp1).new hp2 |>.nd hp3
        have n2 := (((G1.same s6).new hfa).new he).new hp1 |>.nd hp2
        have n1 := ((G1.same s6).new hfa).new he |>.nd hp1
        have ne := (G1.same s6).new hfa |>.nd he
        have nf := (G1.same s6).nd hfa
        rcases hv with rfl | rfl | rfl | rfl | rfl | rfl | rfl | rfl | rfl
        · exact fin .none (.dat .non) rfl (fun es z => by cases z)
        · exact fin (.dict []) (.dic (at_ ne.1 ne.2 (f3 _ _ (f2 _ _ (f1 _ _ (f0 _ _ upd_same)))))) rfl (fun es z => by cases z)
        · exact fin (.tuple []) (.dat (.tup (SqT.of (at_ n1.1 n1.2 (f3 _ _ (f2 _ _ (f1 _ _ upd_same))))) .nil)) (by decide) (fun es z => by cases z)
        · exact fin (.list []) (.dat (.lst (SqL.of (at_ n2.1 n2.2 (f3 _ _ (f2 _ _ upd_same)))) .nil)) (by decide) (fun es z => by cases z; exact Nat.zero_le _)
        · exact fin (.str "signs") (.dat (.str _)) (by decide +kernel) (fun es z => by cases z)
        · exact fin (.int 5) (.dat (.int _)) (by decide) (fun es z => by cases z)
        · exact fin (.bool true) (.dat (.bl _)) (by decide) (fun es z => by cases z)
        · exact fin (.dict []) (.dic (at_ nf.1 nf.2 (f3 _ _ (f2 _ _ (f1 _ _ (f0 _ _ (fe _ _ upd_same))))))) rfl (fun es z => by cases z)
        · refine fin (.list [.list ds]) (.dat (.lst (SqL.of (at_ n3.1 n3.2 (f3 _ _ upd_same))) (.cons (.lst (qN.seq hS1) (dp_sameAll qN _ _ hA1)) .nil))) ?_ (fun es z => by cases z; exact Nat.succ_le_succ (Nat.zero_le _))
          refine prt_ok (n := 4) (prt_lst (n := 3) (fun e he => ?_) (by show 1 ≤ 1000; decide)) (by decide)
          rw [List.mem_singleton.mp he]
          exact prt_lst prts (by omega)
    · have hpos : 0 < xs.length := by
        rw [hlx]
        exact List.length_pos_iff.mpr hne
      refine ⟨_, rfl, _, rfl, l, xs, rfl, .inl lS1, d, g, c, _, (xs.length : Int), rfl, G1, by omega, by omega, by omega, fun at_ H2 a0 a1 G2 k2 => ?_⟩
      obtain ⟨n, rfl⟩ := Int.eq_ofNat_of_zero_le a0
      have hn : n < xs.length := by omega
      have hnd : n < ds.length := by omega
      have q12 := hid_kp2 k2
      have hS2 := q12.seq hS1
      have lS2 : SqL K H2 l xs := hid_le.seq hS2
      have hA2 := dp_sameAll q12 _ _ hA1
      obtain ⟨b, s, y, m, hx, he, hb, hnm, hyl, hys⟩ := rowAt n xs[n] ds[n] (List.getElem?_eq_getElem hn) (List.getElem?_eq_getElem hnd) H2 q12
      have hxn : xs[n]? = some (.ref b) := by rw [List.getElem?_eq_getElem hn, hx]
      have lb : SqT K H2 b [.str s, .str y, .int m] := sqt_same hid_le hb
      have k12 := k1.trans k2
      have nl := name_len hnm
      refine ⟨_, rfl, _, rfl, l, xs, n, .ref b, rfl, rfl, lS2, atI_nat (j := n) hxn, b, _, rfl, lb, rfl, _, _, rfl, _, _, rfl, _, _, rfl, rfl, ?_⟩
      have done_ : ∀ {H5 : Hp} {p5 : Addr} {zs : List V} {es : List PyData} {t5 : Nat}, Gen d g c t5 H5 → t5 ≤ t + 50 → Kp d g H2 H5 → H5 p5 = some (.lst zs) → p5 ≠ d → p5 ≠ g → DpAll K (hid [d, g] H5) zs es → (∀ e ∈ es, prt 19 e = true) → es.length ≤ ds.length + 1 → Q (.ref p5) H5 :=
        fun {H5 p5 zs es t5} G5 ht5 k5 e5 n1 n2 hD hP hL => k _ (.list es) H5 (.dat (.lst (SqL.of (hid_get n1 n2 e5)) hD)) (ok_parts (fun e he => prt_part (hP e he) (by decide)) (by omega)) (fun es' z => by cases z; exact hL) (G5.mono ht5) (k12.trans k5)
      have cT : cutV xs none (some (n : Int)) = xs.take n := cut_to (by omega)
      have cF : cutV xs (some (n : Int)) none = xs.drop n := cut_from (by omega)
      have cA : cutV xs (some (n : Int)) (some ((n : Int) + 1)) = (xs.drop n).take 1 := cut_at hn
      have cB : cutV xs (some ((n : Int) + 1)) none = xs.drop (n + 1) := by
        rw [show ((n : Int) + 1) = ((n + 1 : Nat) : Int) by omega]
        exact cut_from (by omega)
      have dT : ∀ {H' : Hp}, DpAll K H' xs ds → DpAll K H' (cutV xs none (some (n : Int))) (ds.take n) := fun z => by
        rw [cT]
        exact dpAll_take n z
      have dA : ∀ {H' : Hp}, DpAll K H' xs ds → DpAll K H' (cutV xs (some (n : Int)) (some ((n : Int) + 1))) ((ds.drop n).take 1) := fun z => by
        rw [cA]
        exact dpAll_take 1 (dpAll_drop n z)
      have dF : ∀ {H' : Hp}, DpAll K H' xs ds → DpAll K H' (cutV xs (some (n : Int)) none) (ds.drop n) := fun z => by
        rw [cF]
        exact dpAll_drop n z
      have dB : ∀ {H' : Hp}, DpAll K H' xs ds → DpAll K H' (cutV xs (some ((n : Int) + 1)) none) (ds.drop (n + 1)) := fun z => by
        rw [cB]
        exact dpAll_drop (n + 1) z
      have mT : ∀ e ∈ ds.take n, prt 19 e = true := fun e he => prt_mono (prts e (List.mem_of_mem_take he)) (by decide)
      have mD : ∀ j, ∀ e ∈ ds.drop j, prt 19 e = true := fun j e he => prt_mono (prts e (List.mem_of_mem_drop he)) (by decide)
      refine ⟨_, rfl, rfl, _, rfl, ?_⟩
      refine ite2 (fun hw1 => ?_) (fun hw1 => ?_)
      · -- a row twice
        refine ⟨_, rfl, _, rfl, _, rfl, l, xs, rfl, lS2, fun p1 hp1 => ?_⟩
        have s1 := Same.new (o := .lst (cutV xs none (some (n : Int)))) (Same.refl H2) hp1
        refine ⟨_, rfl, _, rfl, _, rfl, _, rfl, _, _, rfl, rfl, _, rfl, l, xs, rfl, s1.seq lS2, fun p2 hp2 => ?_⟩
        have s2 := Same.new (o := .lst (cutV xs (some (n : Int)) (some ((n : Int) + 1)))) s1 hp2
        refine ⟨p1, p2, _, _, rfl, rfl, Same.new (Same.refl _) hp2 _ _ upd_same, upd_same, ?_, fun p3 hp3 => ?_⟩
        · have := cutV_length xs none (some (n : Int))
          have := cutV_length xs (some (n : Int)) (some ((n : Int) + 1))
          rw [sizeLine_eq]
          omega
        have s3 := Same.new (o := .lst (cutV xs none (some (n : Int)) ++ cutV xs (some (n : Int)) (some ((n : Int) + 1)))) s2 hp3
        refine ⟨_, rfl, _, rfl, _, rfl, l, xs, rfl, s3.seq lS2, fun p4 hp4 => ?_⟩
        have s4 := Same.new (o := .lst (cutV xs (some (n : Int)) none)) s3 hp4
        refine ⟨p3, p4, _, _, rfl, rfl, Same.new (Same.refl _) hp4 _ _ upd_same, upd_same, ?_, fun p5 hp5 => ?_⟩
        · have := cutV_length xs none (some (n : Int))
          have := cutV_length xs (some (n : Int)) (some ((n : Int) + 1))
          have := cutV_length xs (some (n : Int)) none
          rw [List.length_append, sizeLine_eq]
          omega
        have s5 := Same.new (o := .lst ((cutV xs none (some (n : Int)) ++ cutV xs (some (n : Int)) (some ((n : Int) + 1))) ++ cutV xs (some (n : Int)) none)) s4 hp5
        have n5 := (G2.same s4).nd hp5
        have hA5 := dp_sameAll (hid_same (ls := [d, g]) s5) _ _ hA2
        refine done_ (G2.same s5) (by omega) (Kp.of s5) upd_same n5.1 n5.2 ?_ (es := (ds.take n ++ (ds.drop n).take 1) ++ ds.drop n) ?_ ?_
        · exact dpAll_app (dpAll_app (dT hA5) (dA hA5)) (dF hA5)
        · intro e he
          rcases List.mem_append.mp he with he | he
          · rcases List.mem_append.mp he with he | he
            · exact mT e he
            · exact mD n e (List.mem_of_mem_take he)
          · exact mD n e he
        · rw [List.length_append, List.length_append, List.length_take, List.length_take, List.length_drop]
          omega
      · refine ⟨_, rfl, rfl, _, rfl, ?_⟩
        refine ite2 (fun hw2 => ?_) (fun hw2 => ?_)
        · -- a row otherwise
          refine ⟨_, rfl, _, rfl, l, xs, n, .ref b, rfl, rfl, lS2, atI_nat (j := n) hxn, b, _, rfl, .inr lb, fun p1 hp1 => ?_⟩
          have s1 := Same.new (o := .lst [.str s, .str y, .int m]) (Same.refl H2) hp1
          refine ⟨_, rfl, _, rfl, l, xs, n, .ref b, rfl, rfl, s1.seq lS2, atI_nat (j := n) hxn, 2, rfl, b, _, rfl, sqt_same s1 lb, (fun z => absurd z.2 (by show ¬ (2 = 3); decide)), fun _ p2 hp2 => ?_⟩
          have s2 := Same.new (o := .tup (cutV [.str s, .str y, .int m] none (some 2))) s1 hp2
          refine ⟨_, rfl, _, rfl, l, xs, n, .ref b, rfl, rfl, s2.seq lS2, atI_nat (j := n) hxn, (by show 1 ≤ sizeLine; decide), fun p3 hp3 => ?_⟩
          have s3 := Same.new (o := .tup [.int 0]) s2 hp3
          refine ⟨b, p3, _, _, rfl, rfl, sqt_same s3 lb, SqT.of upd_same, (by show 4 ≤ sizeLine; decide), (fun z => by cases z), (fun _ z => by cases z), fun _ _ p4 hp4 => ?_⟩
          have s4 := Same.new (o := .tup ([.str s, .str y, .int m] ++ [.int 0])) s3 hp4
          refine ⟨(by show 0 ≤ sizeLine; decide), fun p5 hp5 => ⟨_, rfl, (by show 6 ≤ sizeLine; decide), fun p6 hp6 => ?_⟩⟩
          have s5 := Same.new (o := .tup []) s4 hp5
          have s6 := Same.new (o := .lst [.ref p1, .ref p2, .ref p4, .non, .ref p5, .str s]) s5 hp6
          refine ⟨_, rfl, _, rfl, _, rfl, _, rfl, (by show 2 ≤ sizeLine; decide), fun p7 hp7 => ⟨(by show 2 ≤ sizeLine; decide), fun p8 hp8 => ?_⟩⟩
          have s7 := Same.new (o := .tup [.str y, .int m]) s6 hp7
          have s8 := Same.new (o := .tup [.str s, .ref p7]) s7 hp8
          refine ⟨_, rfl, _, rfl, l, xs, n, .ref b, rfl, rfl, s8.seq lS2, atI_nat (j := n) hxn, b, _, _, _, rfl, sqt_same s8 lb, fun p9 hp9 => ⟨(by show 2 ≤ sizeLine; decide), fun p10 hp10 => ?_⟩⟩
          have s9 := Same.new (o := .tup [.int m, .str y, .str s]) s8 hp9
          have s10 := Same.new (o := .lst [.ref p8, .ref p9]) s9 hp10
          have g6 := Same.new (o := .lst [.ref p8, .ref p9]) (Same.new (o := .tup [.int m, .str y, .str s]) (Same.new (o := .tup [.str s, .ref p7]) (Same.new (o := .tup [.str y, .int m]) (Same.refl _) hp7) hp8) hp9) hp10
          refine ⟨p6, p10, _, _, rfl, rfl, g6 _ _ upd_same, upd_same, (by show 8 ≤ sizeLine; decide), fun p11 hp11 => ?_⟩
          have s11 := Same.new (o := .lst ([.ref p1, .ref p2, .ref p4, .non, .ref p5, .str s] ++ [.ref p8, .ref p9])) s10 hp11
          refine ⟨_, rfl, _, rfl, _, rfl, l, xs, rfl, s11.seq lS2, fun p12 hp12 => ?_⟩
          have s12 := Same.new (o := .lst (cutV xs none (some (n : Int)))) s11 hp12
          have GA := G2.same s12
          have f11 := Same.new (o := .lst (cutV xs none (some (n : Int)))) (Same.refl _) hp12
          have n11 := (G2.same s10).nd hp11
          have n12 := (G2.same s11).nd hp12
          refine ⟨_, rfl, _, rfl, d, g, c, p11, _, _, rfl, GA, by omega, f11 _ _ upd_same, n11.2, (by intro z; cases z), (by show 8 < 2 ^ 50; decide), fun v H3 hv G3 k3 => ⟨(by show 1 ≤ sizeLine; decide), fun p13 hp13 => ?_⟩⟩
          have r13 := Same.new (o := .lst [v]) (Same.refl H3) hp13
          have kA : Kp d g H2 H3 := (Kp.of s12).trans k3
          refine ⟨p12, p13, _, _, rfl, rfl, r13 _ _ (k3 _ _ n12.1 n12.2 upd_same), upd_same, ?_, fun p14 hp14 => ?_⟩
          · have := cutV_length xs none (some (n : Int))
            rw [sizeLine_eq]
            show _ + 1 ≤ _
            omega
          have r14 := Same.new (o := .lst (cutV xs none (some (n : Int)) ++ [v])) r13 hp14
          have q3 : Same (hid [d, g] H2) (hid [d, g] H3) := hid_kp2 kA
          have lS3 : SqL K H3 l xs := hid_le.seq (q3.seq hS2)
          refine ⟨_, rfl, _, rfl, _, _, rfl, rfl, _, rfl, l, xs, rfl, r14.seq lS3, fun p15 hp15 => ?_⟩
          have r15 := Same.new (o := .lst (cutV xs (some ((n : Int) + 1)) none)) r14 hp15
          refine ⟨p14, p15, _, _, rfl, rfl, Same.new (Same.refl _) hp15 _ _ upd_same, upd_same, ?_, fun p16 hp16 => ?_⟩
          · have := cutV_length xs none (some (n : Int))
            have := cutV_length xs (some ((n : Int) + 1)) none
            rw [List.length_append, sizeLine_eq]
            show _ + 1 + _ ≤ _
            omega
          have r16 := Same.new (o := .lst ((cutV xs none (some (n : Int)) ++ [v]) ++ cutV xs (some ((n : Int) + 1)) none)) r15 hp16
          have n16 := (G3.same r15).nd hp16
          have t12 := Same.new (o := .lst (cutV xs none (some (n : Int)))) (Same.refl _) hp12
          have t11 := (Same.new (o := .lst ([.ref p1, .ref p2, .ref p4, .non, .ref p5, .str s] ++ [.ref p8, .ref p9])) (Same.refl _) hp11).trans t12
          have t10 := (Same.new (o := .lst [.ref p8, .ref p9]) (Same.refl _) hp10).trans t11
          have t9 := (Same.new (o := .tup [.int m, .str y, .str s]) (Same.refl _) hp9).trans t10
          have t8 := (Same.new (o := .tup [.str s, .ref p7]) (Same.refl _) hp8).trans t9
          have t7 := (Same.new (o := .tup [.str y, .int m]) (Same.refl _) hp7).trans t8
          have t6 := (Same.new (o := .lst [.ref p1, .ref p2, .ref p4, .non, .ref p5, .str s]) (Same.refl _) hp6).trans t7
          have t5 := (Same.new (o := .tup []) (Same.refl _) hp5).trans t6
          have t4 := (Same.new (o := .tup ([.str s, .str y, .int m] ++ [.int 0])) (Same.refl _) hp4).trans t5
          have t3 := (Same.new (o := .tup [.int 0]) (Same.refl _) hp3).trans t4
          have t2 := (Same.new (o := .tup (cutV [.str s, .str y, .int m] none (some 2))) (Same.refl _) hp2).trans t3
          have n1 := G2.nd hp1
          have n2 := (G2.same s1).nd hp2
          have n4 := (G2.same s3).nd hp4
          have n5 := (G2.same s4).nd hp5
          have n7 := (G2.same s6).nd hp7
          have n8 := (G2.same s7).nd hp8
          have n9 := (G2.same s8).nd hp9
          have hA3 := dp_sameAll (q3.trans (hid_same (ls := [d, g]) r16)) _ _ hA2
          have fin : ∀ e : PyData, Dp K (hid [d, g] (upd (upd (upd (upd H3 p13 (.lst [v])) p14 (.lst (cutV xs none (some (n : Int)) ++ [v]))) p15 (.lst (cutV xs (some ((n : Int) + 1)) none))) p16 (.lst ((cutV xs none (some (n : Int)) ++ [v]) ++ cutV xs (some ((n : Int) + 1)) none)))) v e → prt 19 e = true → Q (.ref p16) (upd (upd (upd (upd H3 p13 (.lst [v])) p14 (.lst (cutV xs none (some (n : Int)) ++ [v]))) p15 (.lst (cutV xs (some ((n : Int) + 1)) none))) p16 (.lst ((cutV xs none (some (n : Int)) ++ [v]) ++ cutV xs (some ((n : Int) + 1)) none))) := by
            intro e hd hp
            refine done_ (G3.same r16) (by omega) (kA.trans (Kp.of r16)) upd_same n16.1 n16.2 (es := (ds.take n ++ [e]) ++ ds.drop (n + 1)) (dpAll_app (dpAll_app (dT hA3) (.cons hd .nil)) (dB hA3)) ?_ ?_
            · intro e' he'
              rcases List.mem_append.mp he' with he' | he'
              · rcases List.mem_append.mp he' with he' | he'
                · exact mT e' he'
                · rw [List.mem_singleton.mp he']
                  exact hp
              · exact mD _ e' he'
            · rw [List.length_append, List.length_append, List.length_take, List.length_drop]
              show _ + 1 + _ ≤ _
              omega
          have at2 : ∀ {x : Addr} {o : HO}, x ≠ d → x ≠ g → (upd (upd (upd (upd (upd (upd (upd (upd (upd (upd (upd (upd H2 p1 (.lst [.str s, .str y, .int m])) p2 (.tup (cutV [.str s, .str y, .int m] none (some 2)))) p3 (.tup [.int 0])) p4 (.tup ([.str s, .str y, .int m] ++ [.int 0]))) p5 (.tup [])) p6 (.lst [.ref p1, .ref p2, .ref p4, .non, .ref p5, .str s])) p7 (.tup [.str y, .int m])) p8 (.tup [.str s, .ref p7])) p9 (.tup [.int m, .str y, .str s])) p10 (.lst [.ref p8, .ref p9])) p11 (.lst ([.ref p1, .ref p2, .ref p4, .non, .ref p5, .str s] ++ [.ref p8, .ref p9]))) p12 (.lst (cutV xs none (some (n : Int))))) x = some o → hid [d, g] (upd (upd (upd (upd H3 p13 (.lst [v])) p14 (.lst (cutV xs none (some (n : Int)) ++ [v]))) p15 (.lst (cutV xs (some ((n : Int) + 1)) none))) p16 (.lst ((cutV xs none (some (n : Int)) ++ [v]) ++ cutV xs (some ((n : Int) + 1)) none))) x = some o :=
            fun xd xg q => hid_get xd xg (r16 _ _ (k3 _ _ xd xg q))
          have ps : prt 1 (.str s) = true := prt_str (by omega) (name_strOk hnm)
          have py : prt 1 (.str y) = true := prt_str hyl hys
          have pm := prt_int m
          have hv' : v ∈ [V.ref p1, .ref p2, .ref p4, .non, .ref p5, .str s, .ref p8, .ref p9] := hv
          simp only [List.mem_cons, List.not_mem_nil, or_false] at hv'
          rcases hv' with rfl | rfl | rfl | rfl | rfl | rfl | rfl | rfl
          · refine fin (.list [.str s, .str y, .int m]) (.lst (SqL.of (at2 n1.1 n1.2 (t2 _ _ upd_same))) (.cons (.str _) (.cons (.str _) (.cons (.int _) .nil)))) (prt_mono (prt_lst (n := 1) ?_ (by show 3 ≤ 1000; decide)) (by decide))
            intro e he
            simp only [List.mem_cons, List.not_mem_nil, or_false] at he
            rcases he with rfl | rfl | rfl <;> assumption
          · refine fin (.tuple [.str s, .str y]) (.tup (SqT.of (at2 n2.1 n2.2 (t3 _ _ upd_same))) (.cons (.str _) (.cons (.str _) .nil))) (prt_mono (prt_tup (n := 1) ?_ (by show 2 ≤ 1000; decide)) (by decide))
            intro e he
            simp only [List.mem_cons, List.not_mem_nil, or_false] at he
            rcases he with rfl | rfl <;> assumption
          · refine fin (.tuple [.str s, .str y, .int m, .int 0]) (.tup (SqT.of (at2 n4.1 n4.2 (t5 _ _ upd_same))) (.cons (.str _) (.cons (.str _) (.cons (.int _) (.cons (.int _) .nil))))) (prt_mono (prt_tup (n := 1) ?_ (by show 4 ≤ 1000; decide)) (by decide))
            intro e he
            simp only [List.mem_cons, List.not_mem_nil, or_false] at he
            rcases he with rfl | rfl | rfl | rfl <;> first | assumption | exact prt_int 0
          · exact fin .none .non (by decide)
          · exact fin (.tuple []) (.tup (SqT.of (at2 n5.1 n5.2 (t6 _ _ upd_same))) .nil) (by decide)
          · exact fin (.str s) (.str _) (prt_mono ps (by decide))
          · refine fin (.tuple [.str s, .tuple [.str y, .int m]]) (.tup (SqT.of (at2 n8.1 n8.2 (t9 _ _ upd_same))) (.cons (.str _) (.cons (.tup (SqT.of (at2 n7.1 n7.2 (t8 _ _ upd_same))) (.cons (.str _) (.cons (.int _) .nil))) .nil))) (prt_mono (prt_tup (n := 2) ?_ (by show 2 ≤ 1000; decide)) (by decide))
            intro e he
            simp only [List.mem_cons, List.not_mem_nil, or_false] at he
            rcases he with rfl | rfl
            · exact prt_mono ps (by decide)
            · refine prt_tup (n := 1) ?_ (by show 2 ≤ 1000; decide)
              intro e he
              simp only [List.mem_cons, List.not_mem_nil, or_false] at he
              rcases he with rfl | rfl <;> assumption
          · refine fin (.tuple [.int m, .str y, .str s]) (.tup (SqT.of (at2 n9.1 n9.2 (t10 _ _ upd_same))) (.cons (.int _) (.cons (.str _) (.cons (.str _) .nil)))) (prt_mono (prt_tup (n := 1) ?_ (by show 3 ≤ 1000; decide)) (by decide))
            intro e he
            simp only [List.mem_cons, List.not_mem_nil, or_false] at he
            rcases he with rfl | rfl | rfl <;> assumption
        · -- a name, a kind, a number otherwise
          refine ⟨fun σ' H' => ∃ (vw vk vm : V) (dw dk dm : PyData) (v3 v4 v9 v10 : Option V), σ' = [some (.ref d), some (.ref l), some (.int way), v3, v4, some (.int n), some vw, some vk, some vm, v9, v10] ∧ Gen d g c (t + 3) H' ∧ Kp d g H2 H' ∧
            Dp K (hid [d, g] H') vw dw ∧ prt 18 dw = true ∧ Dp K (hid [d, g] H') vk dk ∧ prt 18 dk = true ∧ Dp K (hid [d, g] H') vm dm ∧ prt 18 dm = true, ?_, ?_⟩
          · have ps : prt 18 (.str s) = true := prt_mono (prt_str (by omega) (name_strOk hnm)) (by decide)
            have py : prt 18 (.str y) = true := prt_mono (prt_str hyl hys) (by decide)
            have pm : prt 18 (.int m) = true := prt_mono (prt_int m) (by decide)
            refine ⟨_, rfl, _, _, rfl, rfl, _, rfl, ?_⟩
            refine ite2 (fun hw3 => ?_) (fun hw3 => ?_)
            · obtain ⟨x0, hx0⟩ : ∃ x, xs[0]? = some x := ⟨_, List.getElem?_eq_getElem hpos⟩
              obtain ⟨e0, he0⟩ : ∃ e, ds[0]? = some e := ⟨_, List.getElem?_eq_getElem (by omega)⟩
              obtain ⟨b0, z0, y0, m0, rfl, _, hb0, hn0, _, _⟩ := rowAt 0 x0 e0 hx0 he0 H2 q12
              obtain ⟨x1, ha1, hx1⟩ := last_at hpos
              obtain ⟨e1, he1⟩ : ∃ e, ds[xs.length - 1]? = some e := ⟨_, List.getElem?_eq_getElem (by omega)⟩
              obtain ⟨b1, z1, y1, m1, rfl, _, hb1, hn1, _, _⟩ := rowAt _ x1 e1 hx1 he1 H2 q12
              have lb0 : SqT K H2 b0 _ := sqt_same hid_le hb0
              have lb1 : SqT K H2 b1 _ := sqt_same hid_le hb1
              refine ⟨_, rfl, (by show 1 ≤ sizeLine; decide), fun p1 hp1 => ⟨(by show 11 ≤ sizeLine; decide), fun p2 hp2 => ?_⟩⟩
              have s1 := Same.new (o := .tup [.str s]) (Same.refl H2) hp1
              have s2 := Same.new (o := .lst [.str "", .str "A", .str "Ab", .str "abcdefghi", .str "abcdefgh", .str "a1", .str "a b", .non, .int 5, .bl true, .ref p1]) s1 hp2
              refine ⟨_, rfl, _, rfl, _, rfl, l, xs, 0, _, rfl, rfl, s2.seq lS2, atI_nat (j := 0) hx0, b0, _, 0, _, rfl, rfl, sqt_same s2 lb0, atI_nat (j := 0) rfl, _, rfl, 1, rfl, l, xs, -1, _, rfl, rfl, s2.seq lS2, ha1, b1, _, 0, _, rfl, rfl, sqt_same s2 lb1, atI_nat (j := 0) rfl, _, rfl, ⟨_, rfl⟩, s, rfl, rfl, by omega, (by show 4 ≤ sizeLine; decide), fun p3 hp3 => ?_⟩
              have s3 := Same.new (o := .lst [.str z0, .str z1, .str "stay", .str (Txt.upper s)]) s2 hp3
              refine ⟨p2, p3, _, _, rfl, rfl, Same.new (Same.refl _) hp3 _ _ upd_same, upd_same, (by show 15 ≤ sizeLine; decide), fun p4 hp4 => ?_⟩
              have s4 := Same.new (o := .lst ([.str "", .str "A", .str "Ab", .str "abcdefghi", .str "abcdefgh", .str "a1", .str "a b", .non, .int 5, .bl true, .ref p1] ++ [.str z0, .str z1, .str "stay", .str (Txt.upper s)])) s3 hp4
              have n4 := (G2.same s3).nd hp4
              have n1 := G2.nd hp1
              refine ⟨d, g, c, p4, _, _, rfl, G2.same s4, by omega, upd_same, n4.2, (by intro z; cases z), (by show 15 < 2 ^ 50; decide), fun v H3 hv G3 k3 => ?_⟩
              have kA : Kp d g H2 H3 := (Kp.of s4).trans k3
              have f1 := Same.new (o := .lst ([.str "", .str "A", .str "Ab", .str "abcdefghi", .str "abcdefgh", .str "a1", .str "a b", .non, .int 5, .bl true, .ref p1] ++ [.str z0, .str z1, .str "stay", .str (Txt.upper s)])) (Same.new (o := .lst [.str z0, .str z1, .str "stay", .str (Txt.upper s)]) (Same.new (o := .lst [.str "", .str "A", .str "Ab", .str "abcdefghi", .str "abcdefgh", .str "a1", .str "a b", .non, .int 5, .bl true, .ref p1]) (Same.refl _) hp2) hp3) hp4
              have fin : ∀ e, Dp K (hid [d, g] H3) v e → prt 18 e = true → _ := fun e h1 h2 => (⟨v, .str y, .int m, e, .str y, .int m, none, none, none, some (.ref p2), rfl, G3.mono (by omega), kA, h1, h2, .str y, py, .int m, pm⟩ : ∃ (vw vk vm : V) (dw dk dm : PyData) (v3 v4 v9 v10 : Option V), [some (V.ref d), some (.ref l), some (.int way), none, none, some (.int n), some v, some (.str y), some (.int m), none, some (.ref p2)] = [some (.ref d), some (.ref l), some (.int way), v3, v4, some (.int n), some vw, some vk, some vm, v9, v10] ∧ Gen d g c (t + 3) H3 ∧ Kp d g H2 H3 ∧
                Dp K (hid [d, g] H3) vw dw ∧ prt 18 dw = true ∧ Dp K (hid [d, g] H3) vk dk ∧ prt 18 dk = true ∧ Dp K (hid [d, g] H3) vm dm ∧ prt 18 dm = true)
              have hv' : v ∈ [V.str "", .str "A", .str "Ab", .str "abcdefghi", .str "abcdefgh", .str "a1", .str "a b", .non, .int 5, .bl true, .ref p1, .str z0, .str z1, .str "stay", .str (Txt.upper s)] := hv
              simp only [List.mem_cons, List.not_mem_nil, or_false] at hv'
              have nl0 := name_len hn0
              have nl1 := name_len hn1
              obtain ⟨u1, u2⟩ := upper_ok hnm
              rcases hv' with rfl | rfl | rfl | rfl | rfl | rfl | rfl | rfl | rfl | rfl | rfl | rfl | rfl | rfl | rfl
              · exact fin _ (.str _) (by decide +kernel)
              · exact fin _ (.str _) (by decide +kernel)
              · exact fin _ (.str _) (by decide +kernel)
              · exact fin _ (.str _) (by decide +kernel)
              · exact fin _ (.str _) (by decide +kernel)
              · exact fin _ (.str _) (by decide +kernel)
              · exact fin _ (.str _) (by decide +kernel)
              · exact fin .none .non (by decide)
              · exact fin (.int 5) (.int _) (by decide)
              · exact fin (.bool true) (.bl _) (by decide)
              · refine fin (.tuple [.str s]) (.tup (SqT.of (hid_get n1.1 n1.2 (k3 _ _ n1.1 n1.2 (f1 _ _ upd_same)))) (.cons (.str _) .nil)) (prt_mono (prt_tup (n := 1) ?_ (by show 1 ≤ 1000; decide)) (by decide))
                intro e he
                rw [List.mem_singleton.mp he]
                exact prt_str (by omega) (name_strOk hnm)
              · exact fin _ (.str _) (prt_mono (prt_str (by omega) (name_strOk hn0)) (by decide))
              · exact fin _ (.str _) (prt_mono (prt_str (by omega) (name_strOk hn1)) (by decide))
              · exact fin _ (.str _) (by decide +kernel)
              · exact fin _ (.str _) (prt_mono (prt_str (by omega) u2) (by decide))
            · refine ⟨_, rfl, _, _, rfl, rfl, _, rfl, ?_⟩
              refine ite2 (fun hw4 => ?_) (fun hw4 => ?_)
              · refine ⟨_, rfl, (by show 1 ≤ sizeLine; decide), fun p1 hp1 => ⟨(by show 11 ≤ sizeLine; decide), fun p2 hp2 => ?_⟩⟩
                have s1 := Same.new (o := .tup [.str "row"]) (Same.refl H2) hp1
                have s2 := Same.new (o := .lst [.str "plain", .str "pair", .str "row", .str "heap", .str "Row", .str "", .non, .int 0, .str "heaps", .ref p1, .str "gap"]) s1 hp2
                have n1 := G2.nd hp1
                have n2 := (G2.same s1).nd hp2
                refine ⟨d, g, c, p2, _, _, rfl, G2.same s2, by omega, upd_same, n2.2, (by intro z; cases z), (by show 11 < 2 ^ 50; decide), fun v H3 hv G3 k3 => ?_⟩
                have kA : Kp d g H2 H3 := (Kp.of s2).trans k3
                have f1 := Same.new (o := .lst [.str "plain", .str "pair", .str "row", .str "heap", .str "Row", .str "", .non, .int 0, .str "heaps", .ref p1, .str "gap"]) (Same.refl _) hp2
                have fin : ∀ e, Dp K (hid [d, g] H3) v e → prt 18 e = true → _ := fun e h1 h2 => (⟨.str s, v, .int m, .str s, e, .int m, none, none, none, none, rfl, G3.mono (by omega), kA, .str s, ps, h1, h2, .int m, pm⟩ : ∃ (vw vk vm : V) (dw dk dm : PyData) (v3 v4 v9 v10 : Option V), [some (V.ref d), some (.ref l), some (.int way), none, none, some (.int n), some (.str s), some (v), some (.int m), none, none] = [some (.ref d), some (.ref l), some (.int way), v3, v4, some (.int n), some vw, some vk, some vm, v9, v10] ∧ Gen d g c (t + 3) H3 ∧ Kp d g H2 H3 ∧
                Dp K (hid [d, g] H3) vw dw ∧ prt 18 dw = true ∧ Dp K (hid [d, g] H3) vk dk ∧ prt 18 dk = true ∧ Dp K (hid [d, g] H3) vm dm ∧ prt 18 dm = true)
                have hv' : v ∈ [V.str "plain", .str "pair", .str "row", .str "heap", .str "Row", .str "", .non, .int 0, .str "heaps", .ref p1, .str "gap"] := hv
                simp only [List.mem_cons, List.not_mem_nil, or_false] at hv'
                rcases hv' with rfl | rfl | rfl | rfl | rfl | rfl | rfl | rfl | rfl | rfl | rfl
                · exact fin _ (.str _) (by decide +kernel)
                · exact fin _ (.str _) (by decide +kernel)
                · exact fin _ (.str _) (by decide +kernel)
                · exact fin _ (.str _) (by decide +kernel)
                · exact fin _ (.str _) (by decide +kernel)
                · exact fin _ (.str _) (by decide +kernel)
                · exact fin .none .non (by decide)
                · exact fin (.int 0) (.int _) (by decide)
                · exact fin _ (.str _) (by decide +kernel)
                · exact fin (.tuple [.str "row"]) (.tup (SqT.of (hid_get n1.1 n1.2 (k3 _ _ n1.1 n1.2 (f1 _ _ upd_same)))) (.cons (.str _) .nil)) (by decide +kernel)
                · exact fin _ (.str _) (by decide +kernel)
              · refine ⟨_, rfl, 1, rfl, (by show 1 ≤ sizeLine; decide), fun p1 hp1 => ⟨_, _, rfl, rfl, pow30, (by show 13 ≤ sizeLine; decide), fun p2 hp2 => ?_⟩⟩
                have s1 := Same.new (o := .tup [.int 2]) (Same.refl H2) hp1
                have s2 := Same.new (o := .lst [.int 0, .int 1, .int 2, .int 3, .int 4, .int 5, .int (-1), .bl true, .bl false, .non, .str "2", .ref p1, .int (10 ^ Int.toNat 30)]) s1 hp2
                have n1 := G2.nd hp1
                have n2 := (G2.same s1).nd hp2
                refine ⟨d, g, c, p2, _, _, rfl, G2.same s2, by omega, upd_same, n2.2, (by intro z; cases z), (by show 13 < 2 ^ 50; decide), fun v H3 hv G3 k3 => ?_⟩
                have kA : Kp d g H2 H3 := (Kp.of s2).trans k3
                have f1 := Same.new (o := .lst [.int 0, .int 1, .int 2, .int 3, .int 4, .int 5, .int (-1), .bl true, .bl false, .non, .str "2", .ref p1, .int (10 ^ Int.toNat 30)]) (Same.refl _) hp2
                have fin : ∀ e, Dp K (hid [d, g] H3) v e → prt 18 e = true → _ := fun e h1 h2 => (⟨.str s, .str y, v, .str s, .str y, e, none, none, none, none, rfl, G3.mono (by omega), kA, .str s, ps, .str y, py, h1, h2⟩ : ∃ (vw vk vm : V) (dw dk dm : PyData) (v3 v4 v9 v10 : Option V), [some (V.ref d), some (.ref l), some (.int way), none, none, some (.int n), some (.str s), some (.str y), some (v), none, none] = [some (.ref d), some (.ref l), some (.int way), v3, v4, some (.int n), some vw, some vk, some vm, v9, v10] ∧ Gen d g c (t + 3) H3 ∧ Kp d g H2 H3 ∧
                Dp K (hid [d, g] H3) vw dw ∧ prt 18 dw = true ∧ Dp K (hid [d, g] H3) vk dk ∧ prt 18 dk = true ∧ Dp K (hid [d, g] H3) vm dm ∧ prt 18 dm = true)
                have hv' : v ∈ [V.int 0, .int 1, .int 2, .int 3, .int 4, .int 5, .int (-1), .bl true, .bl false, .non, .str "2", .ref p1, .int (10 ^ Int.toNat 30)] := hv
                simp only [List.mem_cons, List.not_mem_nil, or_false] at hv'
                have pi : ∀ z : Int, prt 18 (.int z) = true := fun z => prt_mono (prt_int z) (by decide)
                rcases hv' with rfl | rfl | rfl | rfl | rfl | rfl | rfl | rfl | rfl | rfl | rfl | rfl | rfl
                · exact fin _ (.int _) (pi _)
                · exact fin _ (.int _) (pi _)
                · exact fin _ (.int _) (pi _)
                · exact fin _ (.int _) (pi _)
                · exact fin _ (.int _) (pi _)
                · exact fin _ (.int _) (pi _)
                · exact fin _ (.int _) (pi _)
                · exact fin (.bool true) (.bl _) (by decide)
                · exact fin (.bool false) (.bl _) (by decide)
                · exact fin .none .non (by decide)
                · exact fin _ (.str _) (by decide +kernel)
                · exact fin (.tuple [.int 2]) (.tup (SqT.of (hid_get n1.1 n1.2 (k3 _ _ n1.1 n1.2 (f1 _ _ upd_same)))) (.cons (.int _) .nil)) (by decide)
                · exact fin _ (.int _) (pi _)
          · rintro σ' H3 ⟨vw, vk, vm, dw, dk, dm, v3, v4, v9, v10, rfl, G3, kA, hw5, pw, hk5, pk, hm5, pm⟩
            have q3 : Same (hid [d, g] H2) (hid [d, g] H3) := hid_kp2 kA
            have lS3 : SqL K H3 l xs := hid_le.seq (q3.seq hS2)
            refine ⟨_, rfl, _, rfl, _, rfl, l, xs, rfl, lS3, fun p1 hp1 => ?_⟩
            have s1 := Same.new (o := .lst (cutV xs none (some (n : Int)))) (Same.refl H3) hp1
            refine ⟨_, rfl, _, rfl, _, rfl, (by show 3 ≤ sizeLine; decide), fun p2 hp2 => ⟨(by show 1 ≤ sizeLine; decide), fun p3 hp3 => ?_⟩⟩
            have s2 := Same.new (o := .tup [vw, vk, vm]) s1 hp2
            have s3 := Same.new (o := .lst [.ref p2]) s2 hp3
            refine ⟨p1, p3, _, _, rfl, rfl, Same.new (Same.new (o := .tup [vw, vk, vm]) (Same.refl _) hp2) hp3 _ _ upd_same, upd_same, ?_, fun p4 hp4 => ?_⟩
            · have := cutV_length xs none (some (n : Int))
              rw [sizeLine_eq]
              show _ + 1 ≤ _
              omega
            have s4 := Same.new (o := .lst (cutV xs none (some (n : Int)) ++ [.ref p2])) s3 hp4
            refine ⟨_, rfl, _, rfl, _, _, rfl, rfl, _, rfl, l, xs, rfl, s4.seq lS3, fun p5 hp5 => ?_⟩
            have s5 := Same.new (o := .lst (cutV xs (some ((n : Int) + 1)) none)) s4 hp5
            refine ⟨p4, p5, _, _, rfl, rfl, Same.new (Same.refl _) hp5 _ _ upd_same, upd_same, ?_, fun p6 hp6 => ?_⟩
            · have := cutV_length xs none (some (n : Int))
              have := cutV_length xs (some ((n : Int) + 1)) none
              rw [List.length_append, sizeLine_eq]
              show _ + 1 + _ ≤ _
              omega
            have s6 := Same.new (o := .lst ((cutV xs none (some (n : Int)) ++ [.ref p2]) ++ cutV xs (some ((n : Int) + 1)) none)) s5 hp6
            have n6 := (G3.same s5).nd hp6
            have n2 := (G3.same s1).nd hp2
            have f2 := Same.new (o := .lst ((cutV xs none (some (n : Int)) ++ [.ref p2]) ++ cutV xs (some ((n : Int) + 1)) none)) (Same.new (o := .lst (cutV xs (some ((n : Int) + 1)) none)) (Same.new (o := .lst (cutV xs none (some (n : Int)) ++ [.ref p2])) (Same.new (o := .lst [.ref p2]) (Same.refl _) hp3) hp4) hp5) hp6
            have qq := hid_same (ls := [d, g]) s6
            have hA6 := dp_sameAll (q3.trans qq) _ _ hA2
            refine done_ (G3.same s6) (by omega) (kA.trans (Kp.of s6)) upd_same n6.1 n6.2 (es := (ds.take n ++ [.tuple [dw, dk, dm]]) ++ ds.drop (n + 1)) (dpAll_app (dpAll_app (dT hA6) (.cons (.tup (SqT.of (hid_get n2.1 n2.2 (f2 _ _ upd_same))) (.cons (dp_same qq _ _ hw5) (.cons (dp_same qq _ _ hk5) (.cons (dp_same qq _ _ hm5) .nil)))) .nil)) (dB hA6)) ?_ ?_
            · intro e' he'
              rcases List.mem_append.mp he' with he' | he'
              · rcases List.mem_append.mp he' with he' | he'
                · exact mT e' he'
                · rw [List.mem_singleton.mp he']
                  refine prt_tup (n := 18) ?_ (by show 3 ≤ 1000; decide)
                  intro e he
                  simp only [List.mem_cons, List.not_mem_nil, or_false] at he
                  rcases he with rfl | rfl | rfl <;> assumption
              · exact mD _ e' he'
            · rw [List.length_append, List.length_append, List.length_take, List.length_drop]
              show _ + 1 + _ ≤ _
              omega
end
end K1
set_option Elab.async false
set_option linter.all false
set_option maxRecDepth 100000
set_option maxHeartbeats 4000000
namespace K1
open PySem PySem.Spec PyProof.Rows L2
/-! ### o.m(k = v), len(o), calls that raise nothing -/
section
variable {X : Cx} {CX : CXT} {k : Nat} {f C : Addr} {fd : FuncData} {ps ks : List Str} {sp : Sp} {E : XK} {m : Str} {pos apos : Pos} {o : Expr} {kws : List Keyword} {ta : TE} {tk : TA} {g : List Value → List Value → List Value} {gV : List V → List V → List V}
theorem passX : Passes (L2.CX X.prog X.w) X E0 := fun _ _ _ _ _ _ _ h => by
  obtain ⟨_, _, _, _, _, _, _, _, _, _, _, _, z⟩ := h
  exact z.elim
def tMethKw (C : Addr) (m : Str) (j : Nat) (sp : Sp) (gV : List V → List V → List V) (E : XK) (ta : TE) (tk : TA) : TE := fun σ H Q => ta σ H fun x H1 => ∃ a dx fs, x = .ref a ∧ H1 a = some (.ins C dx fs) ∧ fs.lookup m = none ∧ tk σ H1 fun zs H2 => zs.length = j ∧ sp (gV [x] zs) H2 Q E
theorem pe_methKw {pl : Sem Bool} (he : PE X o ta) (c : Cls X.K C) (hm : Meth X.K C m f) (F : FnOk X.prog X.w X.K X.mg X.base CX k f fd ps sp) (hr : Room k X.A) (hb : KBn X.K fd ps 1 ks g gV) (hx : Passes CX X E) (hkw : PK X kws tk)
    (hall : (backToKw pos (keywordEach kws X.env)).all (·.1.isSome) = true := by rfl) (hks : (backToKw pos (keywordEach kws X.env)).filterMap (·.1) = ks := by rfl)
    (hpl : ((backTo pos (starEach [] X.env)).any (·.1) || (backToKw pos (keywordEach kws X.env)).any (·.1.isNone)) = false := by rfl)
    (ht : eval (.Call (.Attribute o m apos) [] kws pos) X.env = (do
      let ov ← eval o X.env
      standAt apos.atName
      let (f, first) ← holding [ov] (getMethod ov m pl)
      callWith pos f first (backTo pos (starEach [] X.env)) (backToKw pos (keywordEach kws X.env))) := by rfl) :
    PE X (.Call (.Attribute o m apos) [] kws pos) (tMethKw C m ks.length sp gV E ta tk) := by
  refine ⟨fun pins s σ H Q I h => PySem.W.methodCall_KW (pl := pl) (thn (he.run pins s σ H _ I h) fun u s1 hh => ?_) ht⟩
  obtain ⟨x, H1, I1, rx, a, dx, fs, ex, ea, l, q⟩ := hh
  subst ex
  cases rx
  refine getmeth_ok I1 ea c hm l ?_
  refine PySem.W.callWith_KW0 (first := [.ref a]) (h₀ := X.base) I.ok.mod.kin hm.kp hall (thn (hkw.run pos pins s1 σ H1 _ I1 q) fun ws s2 h2 => ?_) hpl
  obtain ⟨zs, H2, I2, rz, lz, q2⟩ := h2
  refine ⟨I2.kIn, ?_⟩
  rw [hks]
  have r1 : Vals [V.ref a] [Value.ref a] := .cons rfl .nil
  have r2 := hb.rel r1 rz
  have bd := hb.to s2 [.ref a] ws I2.kIn rfl (rz.length.symm.trans lz)
  refine wpAny_call (codeAny_mono (F.run X.A X.stack s2 H2 ⟨[.ref a], ks.zip ws⟩ (g [.ref a] ws) (gV [.ref a] zs) Q E hr I2.env0 bd r2 q2) fun r s' hq => ?_)
  cases r with
  | error e => exact hx pins σ H2 s2 e s' I2 hq
  | ok fl =>
    cases fl with
    | ret u => exact I2.after hq
    | next => exact False.elim hq
    | brk => exact False.elim hq
    | cont => exact False.elim hq
/-- len(o) by the __len__ of o's own class -/
def rLenOwn (C : Addr) (sp : Sp) : List V → Hp → VK → Prop := fun xs H Q => ∃ (p dx : Addr) (fs : List (Str × V)), xs = [.ref p] ∧ H p = some (.ins C dx fs) ∧ sp [.ref p] H (fun v H' => ∃ n : Nat, v = .int n ∧ n < 2 ^ 60 ∧ Q (.int n) H') E0
theorem call_lenOwn (F : FnOk X.prog X.w X.K X.mg X.base CX0 k f fd ps sp) (hs : PySem.W.findIn X.K (.ref C) "__len__" = some (some (.ref f))) (hf : PySem.W.isFn X.K (.ref f) = true) (hb : Binds X.K fd ps []) {j : Nat} (hr : Room j X.A) (hk : k + 1 ≤ j := by decide) :
    CallR X (.builtin "len") (rLenOwn C sp) := by
  intro pins s σ H xs us Q I r h
  obtain ⟨p, dx, fs, rfl, hp, hsp⟩ := h
  rw [Vals.ref1 r]
  obtain ⟨mA, O, _⟩ := ins_get I.hok hp
  obtain ⟨od, J, _⟩ := O.look
  obtain ⟨mm, hF⟩ := I.fr
  have hr1 : Room (k + 1) X.A := hr.mono hk
  have hr2 := hr1.in1
  refine PySem.W.len_K hF I.ok.mod.kin J hs hf ?_
  have hl := F.len _ _ _ _ hsp
  have bd := hb s [.ref p] I.kIn (by simpa using hl)
  have rv : Vals [V.ref p] [Value.ref p] := .cons rfl .nil
  refine wpAny_call (codeAny_mono (F.run X.A.in1 X.stack s H ⟨[.ref p], []⟩ [.ref p] [.ref p] _ E0 hr2 I.env0.in1 (by simpa using bd) rv hsp) fun r s' hq => ?_)
  cases r with
  | error e => exact pass0 pins σ H s e s' I hq
  | ok fl =>
    cases fl with
    | ret u =>
      obtain ⟨z, H', I', rz, n, rfl, hn, q⟩ := I.after hq
      obtain ⟨t, rfl⟩ := rz
      exact ⟨⟨by omega, by omega⟩, .int n, H', I'.tok _, ⟨_, rfl⟩, q⟩
    | next => exact False.elim hq
    | brk => exact False.elim hq
    | cont => exact False.elim hq
end
end K1
set_option Elab.async false
set_option linter.all false
set_option maxRecDepth 100000
set_option maxHeartbeats 4000000
namespace PySem.SeqAt
open PySem PySem.Spec
open MeetsSeq MeetsSeq2 MeetsSeq3 SeqRoads2
theorem str_no_dict (b : Str) (u : Tok) (l : Addr) (c : Value) (es : Array DictEntry) (n : Nat) (dd : Option Addr) (sl : Array (Option Value)) :
    Meets (Builtin.«str.__eq__» ⟨[.str b u, .ref l], []⟩) (fun _ R s => s.heap.get? l = some { cls := c, dict := dd, data := .dict es n, slots := sl } ∧ R (.ok (.ret .notImplemented)) s) :=
  .of_wp fun prog w A R s h => by
    obtain ⟨hp, g, d, tk, os⟩ := s
    obtain ⟨hl, h⟩ := h
    wp_walk using wpAny_loadPart' hl, wpAny_load hl
    exact ⟨_, rfl, h⟩
theorem dict_no_str (b : Str) (u : Tok) (l : Addr) (es : Array DictEntry) (n : Nat) (dd : Option Addr) (sl : Array (Option Value)) :
    Meets (Builtin.«dict.__eq__» ⟨[.ref l, .str b u], []⟩) (fun _ R s => s.heap.get? l = some { cls := .type "dict", dict := dd, data := .dict es n, slots := sl } ∧ R (.ok (.ret .notImplemented)) s) :=
  .of_wp fun prog w A R s h => by
    obtain ⟨hp, g, d, tk, os⟩ := s
    obtain ⟨hl, h⟩ := h
    have f1 := PySem.F.sub_str_dict
    wp_walk using wpAny_loadPart' hl, wpAny_load hl
    exact ⟨_, rfl, h⟩
section
variable {A : Around} {s : Shared}
theorem EqAt.str_dict {l : Addr} {dd : Option Addr} {es : Array DictEntry} {n : Nat} {sl : Array (Option Value)} (b : Str) (u : Tok) (ho : s.heap.get? l = some { cls := .type "dict", dict := dd, data := .dict es n, slots := sl }) (hu : A.units < cLine) : EqAt A s (.str b u) (.ref l) false := fun prog w E Q h => by
  unfold eqBool
  refine wpAny_holding (wpAny_ite_split (fun hab => absurd (eq_of_beq hab) nofun) (fun _ => ?_))
  refine wpAny_bind (rc_eq_decline_or (k := false) (typeIs_str s b u) ⟨_, ho, rfl⟩ (by decide) F.sub_dict_str F.slot_str_eq F.slot_dict_eq_refl
    (fun _ hq => call_meets F.slot_str_eq (typeIs_str s b u) F.entry_str_eq (F.args_str_eq_2 _ _) (str_no_dict b u l (.type "dict") es n dd sl) ⟨ho, hq⟩)
    (fun _ hq => call_meets F.slot_dict_eq_refl ⟨_, ho, rfl⟩ F.entry_dict_eq (F.args_dict_eq_2 _ _) (dict_no_str b u l es n dd sl) ⟨ho, hq⟩)
    (fun _ hq => wpAny_of_eq (rfl : isSame (.str b u) (.ref l) = pure false) hq) (.inr hu) (wpAny_truthy_bool h))
end
end PySem.SeqAt
namespace K1
open PySem PySem.Spec PyProof.Rows L2
/-- x in a list of texts, x data or an empty dict -/
def rInM (K : PySem.W.Frag) : R2 := fun x y H Q => rInD K x y H Q ∨ ∃ (e a : Addr) (ws : List Str), x = .ref e ∧ y = .ref a ∧ H e = some (.dK []) ∧ SqL K H a (ws.map V.str) ∧ Q (.bl false) H
theorem op_inM {X : Cx} (hu : X.A.units + 65 < cLine) : OpR X (compareOp .In) (rInM X.K) := by
  intro pins s σ H x y v u Q I rx ry h
  rcases h with h | ⟨e, a, ws, rfl, rfl, he, ha, q⟩
  · exact op_inD hu pins s σ H x y v u Q I rx ry h
  · cases rx
    cases ry
    obtain ⟨its, rv, hl, hlz⟩ := I.list ha
    clear hlz
    obtain ⟨_, _, vs, _, o, es, ep, e1, e2, e3, _⟩ := (show ObjOk X.prog X.w H s.heap e (.dK []) from I.hok e _ he)
    obtain ⟨oc, od, odt, osl⟩ := o
    have hc : oc = .type "dict" := e2.1
    dsimp only at e3
    subst hc e3
    refine SeqAt.in_listAt (fun _ => false) hl.isList (fun z hz => ?_) ?_
    · obtain ⟨w, t, rfl⟩ : ∃ w t, z = Value.str w t := by
        have hz' : z ∈ its := by simpa using hz
        clear hz hl ha e1 he
        induction ws generalizing its with
        | nil =>
          cases rv
          cases hz'
        | cons w ws ih =>
          cases rv with
          | cons r1 rt =>
            rcases List.mem_cons.mp hz' with rfl | hz'
            · obtain ⟨t, rfl⟩ := r1
              exact ⟨w, t, rfl⟩
            · exact ih _ rt hz'
      exact SeqAt.EqAt.str_dict w t e1 (by show X.A.units + 1 < cLine; omega)
    · have e0 : (its.toArray.any fun _ => false) = false := by simp
      rw [e0]
      exact ⟨.bl false, H, I, rfl, q⟩
end K1
set_option Elab.async false
set_option linter.all false
set_option maxRecDepth 100000
set_option maxHeartbeats 4000000
namespace K1
open PySem PySem.Spec PyProof.Rows L2
/-! ### what stands where only tables grow -/
theorem sqt_ext {K : PySem.W.Frag} {H H' : Hp} {a : Addr} {xs : List V} (s : LamX.ExtN H H') (h : SqT K H a xs) : SqT K H' a xs := by
  rcases h with (h | ⟨o, h⟩) | h
  · exact .inl (.inl (s _ _ h (by intro _ z; cases z)))
  · exact .inl (.inr ⟨o, s _ _ h (by intro _ z; cases z)⟩)
  · exact .inr h
theorem sql_ext {K : PySem.W.Frag} {H H' : Hp} {a : Addr} {xs : List V} (s : LamX.ExtN H H') (h : SqL K H a xs) : SqL K H' a xs := by
  rcases h with (h | ⟨o, h⟩) | h
  · exact .inl (.inl (s _ _ h (by intro _ z; cases z)))
  · exact .inl (.inr ⟨o, s _ _ h (by intro _ z; cases z)⟩)
  · exact .inr h
mutual
theorem dp_ext {K : PySem.W.Frag} {H H' : Hp} (s : LamX.ExtN H H') : ∀ (d : PyData) (v : V), Dp K H v d → Dp K H' v d
  | .none, _, .non => .non
  | .bool _, _, .bl b => .bl b
  | .int _, _, .int i => .int i
  | .str _, _, .str x => .str x
  | .list ds, _, .lst h a => .lst (sql_ext s h) (dp_extAll s ds _ a)
  | .tuple ds, _, .tup h a => .tup (sqt_ext s h) (dp_extAll s ds _ a)
theorem dp_extAll {K : PySem.W.Frag} {H H' : Hp} (s : LamX.ExtN H H') : ∀ (ds : List PyData) (vs : List V), DpAll K H vs ds → DpAll K H' vs ds
  | [], _, .nil => .nil
  | d :: ds, _, .cons h t => .cons (dp_ext s d _ h) (dp_extAll s ds _ t)
end
theorem dx_ext {K : PySem.W.Frag} {H H' : Hp} {v : V} {d : PyData} (s : LamX.ExtN H H') (h : Dx K H v d) : Dx K H' v d := by
  cases h with
  | dat h l => exact .dat (dp_ext s _ _ h) l
  | emp h => exact .emp (s _ _ h (by intro _ z; cases z))
theorem Dx.dm {K : PySem.W.Frag} {H : Hp} {v : V} {d : PyData} (h : Dx K H v d) : Dm K H v d := by
  cases h with
  | dat h l => exact .dat h
  | emp h => exact .dic h
theorem SgAt.ext {K : PySem.W.Frag} {C : Addr} {H H' : Hp} {p rt td : Addr} {xs : List V} {ns : List Str} (s : LamX.ExtN H H') (S : SgAt K C H p rt td xs ns) : SgAt K C H' p rt td xs ns := by
  obtain ⟨⟨dx, h1⟩, h2, h3, h4, h5⟩ := S
  exact ⟨⟨dx, s _ _ h1 (by intro _ z; cases z)⟩, sqt_ext s h2, s _ _ h3 (by intro _ z; cases z), h4, h5⟩
theorem SgAt.same {K : PySem.W.Frag} {C : Addr} {H H' : Hp} {p rt td : Addr} {xs : List V} {ns : List Str} (S : SgAt K C H p rt td xs ns) (s : Same H H') : SgAt K C H' p rt td xs ns := S.ext (LamX.ExtN.of s)
theorem val_at {s : Str} {x : V} : ∀ {ns : List Str} {xs : List V} {i : Nat}, ns.Nodup → ns[i]? = some s → xs[i]? = some x → valV (kvsOf ns xs) (Sum.inr s : Key) = some x
  | [], _, i, _, h, _ => by simp at h
  | n :: ns, [], i, _, _, h => by simp at h
  | n :: ns, y :: ys, 0, hn, h1, h2 => by
    have e1 : n = s := by simpa using h1
    have e2 : y = x := by simpa using h2
    subst e1 e2
    exact valV_pos (p := ((Sum.inr n : Key), y)) rfl
  | n :: ns, y :: ys, i + 1, hn, h1, h2 => by
    have h1' : ns[i]? = some s := by simpa using h1
    have hne : n ≠ s := fun e => (List.nodup_cons.mp hn).1 (e ▸ List.mem_of_getElem? h1')
    have ih := val_at (ns := ns) (xs := ys) (i := i) (List.nodup_cons.mp hn).2 h1' (by simpa using h2)
    show valV ((Sum.inr n, y) :: kvsOf ns ys) (Sum.inr s : Key) = some x
    rw [valV_neg (p := ((Sum.inr n : Key), y)) (fun z => hne (Sum.inr.inj z))]
    exact ih
/-! ### what is shown -/
structure Shw (n : Nat) (d : PyData) : Prop where
  ok : PyData.showable d = true
  len : (PyData.shown d).length ≤ n
theorem Shw.mono {n m : Nat} {d : PyData} (h : Shw n d) (hn : n ≤ m) : Shw m d := ⟨h.ok, Nat.le_trans h.len hn⟩
theorem shw_str {s : Str} {n : Nat} (h : s.length ≤ n) (hs : PyData.strOk s = true) : Shw (10 * n + 2) (.str s) := by
  refine ⟨rfl, ?_⟩
  have h' : s.cps.all (· < 0x110000) = true := hs
  rw [Array.all_eq_true_iff_forall_mem] at h'
  have := StrLaws.reprText_len s (fun c hc => by
    have := h' c (by simpa using hc)
    simp at this
    omega)
  show (reprText s).length ≤ _
  omega
theorem shw_none : Shw 10 .none := ⟨rfl, by decide +kernel⟩
theorem shw_bool (b : Bool) : Shw 10 (.bool b) := by
  refine ⟨rfl, ?_⟩
  cases b <;> decide +kernel
theorem shw_int {m : Int} (h0 : 0 ≤ m) (h1 : m ≤ 5) : Shw 10 (.int m) := by
  have : m = 0 ∨ m = 1 ∨ m = 2 ∨ m = 3 ∨ m = 4 ∨ m = 5 := by omega
  rcases this with rfl | rfl | rfl | rfl | rfl | rfl <;> exact ⟨by decide +kernel, by decide +kernel⟩
theorem shw_dict : Shw 10 (.dict []) := ⟨rfl, by decide +kernel⟩
theorem shownAll_len : ∀ ds : List PyData, (PyData.shownAll ds).length = ds.length
  | [] => rfl
  | d :: ds => by
    have ih := shownAll_len ds
    show (PyData.shownAll ds).length + 1 = _
    rw [ih]
    rfl
theorem shownAll_sum {n : Nat} : ∀ ds : List PyData, (∀ e ∈ ds, Shw n e) → ((PyData.shownAll ds).map (·.length)).sum ≤ n * ds.length
  | [], _ => Nat.zero_le _
  | d :: ds, h => by
    have ih := shownAll_sum ds fun e he => h e (List.mem_cons_of_mem _ he)
    have h1 := (h d List.mem_cons_self).len
    show (PyData.shown d).length + ((PyData.shownAll ds).map (·.length)).sum ≤ n * (ds.length + 1)
    rw [Nat.mul_add, Nat.mul_one]
    omega
theorem showAll_of {n : Nat} : ∀ ds : List PyData, (∀ e ∈ ds, Shw n e) → PyData.showableAll ds = true
  | [], _ => rfl
  | d :: ds, h => by
    have ih := showAll_of ds fun e he => h e (List.mem_cons_of_mem _ he)
    show (PyData.showable d && PyData.showableAll ds) = true
    rw [(h d List.mem_cons_self).ok, ih]
    rfl
theorem shw_lst {n : Nat} {ds : List PyData} (h : ∀ e ∈ ds, Shw n e) : Shw (n * ds.length + 2 * ds.length + 3) (.list ds) := by
  refine ⟨by simpa [PyData.showable] using showAll_of ds h, ?_⟩
  have h1 := listText_len_le (PyData.shownAll ds)
  have h2 := shownAll_sum ds h
  rw [shownAll_len] at h1
  simp only [PyData.shown]
  omega
theorem shw_tup {n : Nat} {ds : List PyData} (h : ∀ e ∈ ds, Shw n e) : Shw (n * ds.length + 2 * ds.length + 3) (.tuple ds) := by
  refine ⟨by simpa [PyData.showable] using showAll_of ds h, ?_⟩
  have h1 := tupleText_len_le (PyData.shownAll ds)
  have h2 := shownAll_sum ds h
  rw [shownAll_len] at h1
  simp only [PyData.shown]
  omega
theorem sign_full {e : PyData} (hs : signD e = true) : ∃ s y m, e = .tuple [.str s, .str y, .int m] ∧ nameB s = true ∧ y ∈ kindV ∧ 0 ≤ m ∧ m ≤ 4 := by
  obtain ⟨s, k, m, rfl, hn⟩ := signD_shape hs
  cases q : isStr k with
  | false =>
    rw [signD_kstr q] at hs
    cases hs
  | true =>
    cases k with
    | str y =>
      by_cases hp : PyData.eqv (.str y) (.str "plain") = true
      · rw [signD_plain (n := .str s) (show nameD (.str s) = true from hn) hp, decide_eq_true_iff] at hs
        have e : y = "plain" := by
          have : (y == "plain") = true := hp
          simpa using this
        exact ⟨s, y, m, rfl, hn, by rw [e]; simp [kindV], hs.1, hs.2⟩
      · rw [signD_kind (n := .str s) (show nameD (.str s) = true from hn) hp, Bool.and_eq_true, decide_eq_true_iff] at hs
        obtain ⟨h1, h2⟩ := hs
        refine ⟨s, y, m, rfl, hn, ?_, by omega, by omega⟩
        have h3 : (("pair" : Str) == y || (("row" : Str) == y || (("heap" : Str) == y || false))) = true := h1
        simp only [Bool.or_eq_true, beq_iff_eq, Bool.or_false] at h3
        rcases h3 with rfl | rfl | rfl <;> simp [kindV]
    | _ => cases q
theorem row_shw {s y : Str} {m : Int} (hn : nameB s = true) (hy : y ∈ kindV) (h0 : 0 ≤ m) (h1 : m ≤ 4) : Shw 300 (.tuple [.str s, .str y, .int m]) := by
  have nl := name_len hn
  obtain ⟨k1, k2⟩ := kindV_ok y hy
  refine (shw_tup (n := 82) fun e he => ?_).mono (by show 82 * 3 + 2 * 3 + 3 ≤ 300; decide)
  simp only [List.mem_cons, List.not_mem_nil, or_false] at he
  rcases he with rfl | rfl | rfl
  · exact shw_str (n := 8) nl.2 (name_strOk hn)
  · exact (shw_str k1 k2).mono (by decide)
  · exact (shw_int h0 (by omega)).mono (by decide)
/-- tables stand where only the state changes -/
theorem tabs_kp {T : List (Addr × Str)} {d g c : Addr} {t : Nat} {H H' : Hp} (G : Gen d g c t H) (k : Kp d g H H') (h : LamX.Tabs T H) : LamX.Tabs T H' := fun p hp => by
  obtain ⟨_, _, _, _, _, e1, e2, _⟩ := G
  obtain ⟨ps, h1, h2, h3⟩ := h p hp
  have off : ∀ {b : Addr} {o : HO}, H b = some o → (∀ kvs, o ≠ .dK kvs) → (∀ xs, o ≠ .lst xs) → H' b = some o := fun {b o} e n1 n2 =>
    k b o (fun z => by rw [z, e1] at e; exact n1 _ (Option.some.inj e).symm) (fun z => by rw [z, e2] at e; exact n2 _ (Option.some.inj e).symm) e
  refine ⟨ps, off h1 (by intro _ z; cases z) (by intro _ z; cases z), h2, fun pos cv hc => ?_⟩
  obtain ⟨cc, rfl, e⟩ := h3 pos cv hc
  exact ⟨cc, rfl, off e (by intro _ z; cases z) (by intro _ z; cases z)⟩
end K1
set_option Elab.async false
set_option linter.all false
set_option maxRecDepth 100000
set_option maxHeartbeats 4000000
namespace K1
open PySem PySem.Spec PyProof.Rows L2
abbrev sTold : Stmt := topS 34
abbrev nTold : List Str := ["_law_state", "_law_stock", "_law_lines", "_law_word", "_law_kind", "_law_many", "_law_words_here", "_law_row", "_law_odd", "_law_matter"]
theorem scTold : FnScope nTold ["_law_state", "_law_stock", "_law_lines"] (defScope sTold) := ⟨rfl, rfl, rfl, by decide +kernel, rfl, by decide +kernel, by decide +kernel⟩
/-- a method that may raise, called with or without its keyword -/
structure MtK (P : Program) (w : World) (K : PySem.W.Frag) (mg : Str → Option Value) (base : Heap) (C : Addr) (m : Str) (sp : Sp) : Prop where
  ex : ∃ (f : Addr) (fd : FuncData), FnOk P w K mg base (L2.CX P w) 5 f fd ["self", "name"] sp ∧ Meth K C m f ∧ Binds K fd ["self", "name"] [] ∧ KBn K fd ["self", "name"] 1 ["name"] (fun us ws => us ++ ws) (fun vs zs => vs ++ zs)
/-- a method for an operator -/
structure Ow (P : Program) (w : World) (K : PySem.W.Frag) (mg : Str → Option Value) (base : Heap) (C : Addr) (m : Str) (ps : List Str) (sp : Sp) : Prop where
  ex : ∃ (f : Addr) (fd : FuncData), FnOk P w K mg base CX0 1 f fd ps sp ∧ PySem.W.findIn K (.ref C) m = some (some (.ref f)) ∧ PySem.W.isFn K (.ref f) = true ∧ Binds K fd ps []
theorem bootRepr : bootBuiltins "repr" = some (.builtin "repr") := by decide +kernel
/-- all but the state and the tables stands as it did -/
def Kq (d g : Addr) (H H' : Hp) : Prop := ∀ b o, b ≠ d → b ≠ g → (∀ ps, o ≠ .tbl ps) → H b = some o → H' b = some o
def qTold : Str := Str.ofString "_law_told_right.<locals>.<lambda>"
def spTold (K : PySem.W.Frag) (C : Addr) (T : List (Addr × Str)) : Sp := fun vs H Q _ => ∃ (d g c p rt td l : Addr) (t : Nat) (ys xs : List V) (ds : List PyData), vs = [.ref d, .ref p, .ref l] ∧ Gen d g c t H ∧ t + 10 < 2 ^ 30 ∧
  SgAt K C (hid [d, g] H) p rt td ys (ds.map nameOf) ∧ DpAll K (hid [d, g] H) ys ds ∧ SqL K (hid [d, g] H) l xs ∧ DpAll K (hid [d, g] H) xs ds ∧ okD (.list ds) = true ∧ ds.all signD = true ∧ ds ≠ [] ∧ ds.length ≤ 24 ∧ LamX.Tabs T H ∧
  ∀ H', Gen d g c (t + 10) H' → Kq d g H H' → LamX.Tabs T H' → Q (.bl true) H'
section
variable {P : Program} {w : World} {K : PySem.W.Frag} {mg : Str → Option Value} {base : Heap}
theorem ok_told {f C CN CS CT c1 c2 c3 c4 c5 c6 fR cc PT : Addr} {fd fdR : FuncData} {T : List (Addr × Str)} (F : FunC K "_law_told_right" sTold f fd cc) (FR : Fun K "_law_refused" "_law_refused" sRef fR fdR) (bR : Binds K fdR ["_law_work"] []) (gR : mg "_law_refused" = some (.ref fR))
    (R : RfC K mg CN CS CT c1 c2 c3 c4 c5 c6) (B : Cs mg) (G : SgC K C) (DP : Df P w K mg base CX0 "_law_pick" 3 ["_law_state", "_law_picks"] spPick)
    (mR : Mt P w K mg base CX0 C "rows" 1 ["self"] (spRows K C)) (mK : MtK P w K mg base C "kind" (spAt K C CS 1)) (mM : MtK P w K mg base C "many" (spAt K C CS 2)) (mL : Ow P w K mg base C "__len__" ["self"] (spLen K C))
    (TB : LamX.TabB base mg cc PT) (hT : (PT, qTold) ∈ T) (hTu : ∀ p ∈ T, p.1 = PT → p.2 = qTold) : FnG P w K mg base 9 f fd ["_law_state", "_law_stock", "_law_lines"] (spTold K C T) := by
  obtain ⟨fr, fdr, FRo, meR, biR⟩ := mR.ex
  obtain ⟨fk, fdk, FK, meK, biK, kbK⟩ := mK.ex
  obtain ⟨fm, fdm, FM, meM, biM, kbM⟩ := mM.ex
  obtain ⟨fl, fdl, FL, fiL, isL, biL⟩ := mL.ex
  obtain ⟨oc, od, kV, doc, pm, an, cdv, ct, osl, rfl, lkR, hcR⟩ := FR.ex
  refine F.okG scTold (fun vs H Q E h => ?_) (fun A outer s H vs Q E hg hr h => ?_)
  · obtain ⟨d, g, c, p, rt, td, l, t, ys, xs, ds, rfl, _⟩ := h
    rfl
  · obtain ⟨d, g, c, p, rt, td, l, t, ys, xs, ds, rfl, Gn, ht, S, hY, hl, hA, od', hsg, hne, hlen, hTab, k⟩ := h
    have hur : ∀ {X : Cx}, X.A = (A.deeper (envOfC "_law_told_right" (defScope sTold) s.heap.objs.size f (.ref cc))) → X.A.units + 101 < cLine := fun {X} e => by
      have := hr.un
      rw [e]
      omega
    refine ⟨_, pss_cons (ps_if (PW.pt (pw_or (pt_not (pt_val (pe_callB call_isi (by rfl) B.isi boot_isinstance (pa_cons (pe_meth0 (pv 1) G.cl meR FRo (hr.mono (by decide)) biR .nil pass0) (pa_cons (pe_bltn (v := .ty "list") (by rfl) B.list boot_list rfl) pa_nil)))))
        (pw_or (pt_cmpR op_ne (pe_callB (call_repr hg (hur rfl)) (by rfl) B.repr bootRepr (pa_cons (pe_meth0 (pv 1) G.cl meR FRo (hr.mono (by decide)) biR .nil pass0) pa_nil)) (pe_callB (call_repr hg (hur rfl)) (by rfl) B.repr bootRepr (pa_cons (pv 2) pa_nil)) (nomark _))
        (pw_or1 (pt_cmpR op_ne (pe_callB (call_lenOwn FL fiL isL biL hr) (by rfl) B.len PySem.boot_len (pa_cons (pv 1) pa_nil)) (pe_callB call_len (by rfl) B.len PySem.boot_len (pa_cons (pv 2) pa_nil)) (nomark _)))))) (pss_one (ps_ret pe_bl)) pss_nil)
      (pss_cons (ps_for PassesOwn.never rfl (pi_list (pv 2)) (pg_tup rfl (pgs_cons (pg_name (i := 3) scTold.nd rfl (Or.inl rfl)) (pgs_cons (pg_name (i := 4) scTold.nd rfl (Or.inl rfl)) (pgs_cons (pg_name (i := 5) scTold.nd rfl (Or.inl rfl)) pgs_nil))))
        (pss_cons (ps_if (pt_cmpR op_ne (pe_callB (call_repr hg (hur rfl)) (by rfl) B.repr bootRepr (pa_cons (pe_lst (pa_cons (pe_meth (pv 1) G.cl meK FK (hr.mono (by decide)) biK .nil passX (pa_cons (pv 3) pa_nil)) (pa_cons (pe_methKw (pv 1) G.cl meM FM (hr.mono (by decide)) kbM passX (pk_cons (pv 3) pk_nil)) pa_nil))) pa_nil))
            (pe_callB (call_repr hg (hur rfl)) (by rfl) B.repr bootRepr (pa_cons (pe_lst (pa_cons (pv 4) (pa_cons (pv 5) pa_nil))) pa_nil)) (nomark _)) (pss_one (ps_ret pe_bl)) pss_nil)
        (pss_one (ps_if (pt_cmpR op_ne (pe_callB (call_repr hg (hur rfl)) (by rfl) B.repr bootRepr (pa_cons (pe_lst (pa_cons (pe_methKw (pv 1) G.cl meK FK (hr.mono (by decide)) kbK passX (pk_cons (pv 3) pk_nil)) (pa_cons (pe_meth (pv 1) G.cl meM FM (hr.mono (by decide)) biM .nil passX (pa_cons (pv 3) pa_nil)) pa_nil))) pa_nil))
            (pe_callB (call_repr hg (hur rfl)) (by rfl) B.repr bootRepr (pa_cons (pe_lst (pa_cons (pv 4) (pa_cons (pv 5) pa_nil))) pa_nil)) (nomark _)) (pss_one (ps_ret pe_bl)) pss_nil))))
      (pss_cons (ps_setLc (i := 6) (own := [("_law_row", 7)]) (g := gName 7) (tt := tYes) (te := tOp (rIxT K) (tVar 7) (tC (.int 0))) rfl scTold.nd rfl rfl (sw_true rfl rfl rfl (by decide +kernel)) (pi_list (pv 2)) (blkOk_by (N := nTold) (sc := defScope sTold) (by decide +kernel)) (fun _ _ _ _ _ => pg_name (i := 7) scTold.nd rfl (Or.inl rfl)) (fun _ _ _ _ _ => pts_nil)
          (fun _ _ _ _ _ => pe_ix ix_tup (pv 7) pe_int (fun _ _ => rfl)))
      (pss_cons (ps_set (i := 8) scTold.nd rfl (Or.inl rfl) (pe_lst (pa_cons pe_non (pa_cons pe_int (pa_cons pe_bl (pa_cons pe_str (pa_cons pe_str (pa_cons (pe_upper (pe_ix ix_list (pv 6) pe_int (fun _ _ => rfl))) (pa_cons (pe_tup (pa_cons (pe_ix ix_list (pv 6) pe_int (fun _ _ => rfl)) pa_nil)) (pa_cons (pe_lst (pa_cons (pe_ix ix_list (pv 6) pe_int (fun _ _ => rfl)) pa_nil)) (pa_cons pe_dnewK (pa_cons (pe_ix ix_list (pv 2) pe_int (fun _ _ => rfl)) pa_nil))))))))))))
      (pss_cons (ps_set (i := 9) scTold.nd rfl (Or.inr rfl) (pe_df DP hr pass0 (pa_cons (pv 0) (pa_cons (pe_op op_cat (pv 8) (pe_lst (pa_cons (pe_op op_add_str (pe_ix ix_list (pv 6) pe_int (fun _ _ => rfl)) pe_str) (pa_cons pe_str pa_nil)))) pa_nil))))
      (C8.pss_cut (ps_if (pt_cmpR (op_inM (Nat.lt_of_lt_of_le (Nat.add_lt_add_left (by decide : (65 : Nat) < 101) _) (Nat.le_of_lt (hur rfl)))) (pv 9) (pv 6) (by rfl)) (pss_one (ps_ret pe_bl)) pss_nil)
      (pss_cons (ps_if (pt_cmpR op_ne (pe_callB (call_repr hg (hur rfl)) (by rfl) B.repr bootRepr (pa_cons (LamX.pe_lamcall (k := 5) (by rfl) gR FR.kp lkR hcR bR scRef rfl (Or.inl rfl) (refused_gives R B) TB rfl hT hTu (hr.mono (by decide)) (show LamX.LamS (defScope sTold) _ from LamX.lamS_by (by decide +kernel)) rfl (fun _ _ _ _ _ => rfl)
              (fun A' outer' s' H' E' f' c' hr' => pe_meth (pv 1) G.cl meK FK hr' biK .nil (passes_call (takes_of rfl rfl rfl rfl) (fun _ _ _ _ h => h)) (pa_cons (pv 9) pa_nil))) pa_nil))
            (pe_callB (call_repr hg (hur rfl)) (by rfl) B.repr bootRepr (pa_cons (pe_tup (pa_cons pe_str (pa_cons (pv 9) pa_nil))) pa_nil)) (nomark _)) (pss_one (ps_ret pe_bl)) pss_nil)
      (pss_one (ps_ret (pe_cmpR op_eq (pe_callB (call_repr hg (hur rfl)) (by rfl) B.repr bootRepr (pa_cons (LamX.pe_lamcall (k := 5) (by rfl) gR FR.kp lkR hcR bR scRef rfl (Or.inl rfl) (refused_gives R B) TB rfl hT hTu (hr.mono (by decide)) (show LamX.LamS (defScope sTold) _ from LamX.lamS_by (by decide +kernel)) rfl (fun _ _ _ _ _ => rfl)
              (fun A' outer' s' H' E' f' c' hr' => pe_methKw (pv 1) G.cl meM FM hr' kbM (passes_call (takes_of rfl rfl rfl rfl) (fun _ _ _ _ h => h)) (pk_cons (pv 9) pk_nil))) pa_nil))
            (pe_callB (call_repr hg (hur rfl)) (by rfl) B.repr bootRepr (pa_cons (pe_tup (pa_cons pe_str (pa_cons (pv 9) pa_nil))) pa_nil)) (nomark _)))))))))), ?_⟩
    have hlx := dpAll_len hA
    have q0 : Same (hid [d, g] H) H := hid_le
    have S0 := S.same q0
    have l0 := q0.seq hl
    have A0 := dp_sameAll q0 _ _ hA
    have Y0 := dp_sameAll q0 _ _ hY
    have hyx : ys.length = xs.length := by rw [dpAll_len hY, hlx]
    obtain ⟨⟨dx, hp0⟩, _⟩ := id S0
    have rowAt' : ∀ {i : Nat} {x : V} {us : List V}, us[i]? = some x → ∀ {H' : Hp}, DpAll K H' us ds → ∃ b s y m, x = .ref b ∧ ds[i]? = some (.tuple [.str s, .str y, .int m]) ∧ SqT K H' b [.str s, .str y, .int m] ∧ nameB s = true ∧ y ∈ kindV ∧ 0 ≤ m ∧ m ≤ 4 := by
      intro i x us hx H' hD
      obtain ⟨e, he, hd⟩ := dp_at' hD hx
      obtain ⟨s, y, m, rfl, hn, hy, h0, h1⟩ := sign_full (List.all_eq_true.mp hsg e (List.mem_of_getElem? he))
      obtain ⟨b, vk, vm, rfl, hb, hk, hm⟩ := row_of hd
      cases hk
      cases hm
      exact ⟨b, s, y, m, rfl, he, hb, hn, hy, h0, h1⟩
    have rowAt : ∀ {i : Nat} {x : V}, xs[i]? = some x → ∀ {H' : Hp}, DpAll K H' xs ds → ∃ b s y m, x = .ref b ∧ ds[i]? = some (.tuple [.str s, .str y, .int m]) ∧ SqT K H' b [.str s, .str y, .int m] ∧ nameB s = true ∧ y ∈ kindV ∧ 0 ≤ m ∧ m ≤ 4 := fun h => rowAt' h
    have hsh : Shw 8000 (.list ds) := (shw_lst (n := 300) fun e he => by
      obtain ⟨s, y, m, rfl, hn, hy, h0, h1⟩ := sign_full (List.all_eq_true.mp hsg e he)
      exact row_shw hn hy h0 h1).mono (by omega)
    have hprt : prt 3 (.list ds) = true := prt_lst (n := 2) (fun e he => by
      obtain ⟨i, hi⟩ := List.getElem?_of_mem he
      obtain ⟨s, y, m, rfl, hn, hy, hys⟩ := sign_row (lst_at od' hi).1 (List.all_eq_true.mp hsg e he)
      exact row_prt hn hy hys) (by omega)
    obtain ⟨_, hlay, hdep⟩ := prt_iff.mp hprt
    have noF : ∀ {n : Str}, ¬ n = "_table" → ¬ n = "_rows" → (sgF rt td).lookup n = none := fun h1 h2 => sgF_no rt td h1 h2
    -- rows() is a list, and as it was told
    refine ⟨_, rfl, p, dx, _, rfl, hp0, noF (by decide +kernel) (by decide +kernel), p, rt, td, ys, _, rfl, S0, fun l1 hl1 => ?_⟩
    refine ⟨_, _, _, _, _, rfl, .ty "list", tyx_list (SqL.of upd_same), kit_ty (a := "list") (b := "list") (r := true) (by decide +kernel), true, rfl, iteF ?_⟩
    have s1 := Same.new (o := .lst ys) (Same.refl H) hl1
    refine ⟨_, rfl, p, dx, _, rfl, s1 _ _ hp0, noF (by decide +kernel) (by decide +kernel), p, rt, td, ys, _, rfl, S0.same s1, fun l2 hl2 => ?_⟩
    have s2 := Same.new (o := .lst ys) s1 hl2
    refine ⟨l2, .list ds, rfl, .inl ⟨.lst (SqL.of upd_same) (dp_sameAll s2 _ _ Y0), hlay⟩, hsh.ok, by omega, Nat.le_trans hsh.len (by decide), ?_⟩
    refine ⟨_, rfl, l, .list ds, rfl, .inl ⟨.lst (s2.seq l0) (dp_sameAll s2 _ _ A0), hlay⟩, hsh.ok, by omega, Nat.le_trans hsh.len (by decide), ?_⟩
    refine ⟨rfl, false, by simp, iteF ?_⟩
    refine ⟨_, rfl, p, dx, _, rfl, s2 _ _ hp0, p, rt, td, ys, _, rfl, S0.same s2, ys.length, rfl, by omega, ?_⟩
    refine ⟨_, rfl, .ref l, xs.length, rfl, .inl ⟨xs, s2.seq l0, rfl⟩, rfl, false, by rw [hyx]; simp, iteF ?_⟩
    refine ⟨_, rfl, l, rfl, ⟨_, s2.seq l0⟩, for_list (K := K) (a := l) (xs := xs) (fun i σ H' => ∃ v3 v4 v5 : Option V, σ = [some (.ref d), some (.ref p), some (.ref l), v3, v4, v5, none, none, none, none] ∧ Same H H')
      ⟨none, none, none, rfl, s2⟩ (fun i σ H' _ ⟨_, _, _, _, sm⟩ => sm.seq l0) ?_ ?_⟩
    · rintro i x σ H3 hi ⟨v3, v4, v5, rfl, s3⟩
      obtain ⟨b, z, y, m, rfl, he, hb, hn, hy, m0, m4⟩ := rowAt hi (dp_sameAll s3 _ _ A0)
      have hz : (ds.map nameOf)[i]? = some z := by
        rw [List.getElem?_map, he]
        rfl
      obtain ⟨b', hib, hb'⟩ : ∃ b', ys[i]? = some (.ref b') ∧ SqT K H3 b' [.str z, .str y, .int m] := by
        have hiy : i < ys.length := by
          have := (List.getElem?_eq_some_iff.mp hi).1
          omega
        obtain ⟨b', z', y', m', hxb, he', hb', _⟩ := rowAt' (List.getElem?_eq_getElem hiy) (dp_sameAll s3 _ _ Y0)
        rw [he] at he'
        cases he'
        exact ⟨b', by rw [List.getElem?_eq_getElem hiy, hxb], hb'⟩
      obtain ⟨y5, yok⟩ := kindV_ok y hy
      have hD : hasD (ds.map nameOf) (.str z) = true := by
        show decide (z ∈ ds.map nameOf) = true
        rw [decide_eq_true_iff]
        exact List.mem_of_getElem? hz
      have shp : Shw 200 (.list [.str y, .int m]) := (shw_lst (n := 60) fun e he => by
        simp only [List.mem_cons, List.not_mem_nil, or_false] at he
        rcases he with rfl | rfl
        · exact (shw_str y5 yok).mono (by decide)
        · exact (shw_int m0 (by omega)).mono (by decide)).mono (by show 60 * 2 + 2 * 2 + 3 ≤ 200; decide)
      have layp : PyData.canLay0 (.list [.str y, .int m]) = true := by simp [PyData.canLay0, PyData.canLayAll0, yok]
      have depp : PyData.depth (.list [.str y, .int m]) ≤ 100 := by simp [PyData.depth, PyData.depthAll]
      have nk : (sgF rt td).lookup ("kind" : Str) = none := noF (by decide +kernel) (by decide +kernel)
      have nm : (sgF rt td).lookup ("many" : Str) = none := noF (by decide +kernel) (by decide +kernel)
      refine ⟨b, _, rfl, hb, rfl, _, _, rfl, _, _, rfl, _, _, rfl, rfl, ?_⟩
      -- kind by place, many by name
      refine ⟨_, rfl, p, dx, _, rfl, s3 _ _ hp0, nk, _, rfl, p, rt, td, ys, _, _, .str z, rfl, S0.same s3, .dat (.str z), fun _ s' es => ?_, fun z' => absurd (hD.symm.trans z') (by decide)⟩
      cases es
      refine ⟨b', _, _, val_at S0.nd hz hib, sqt_same (Same.refl _) hb', rfl, ?_⟩
      refine ⟨_, rfl, p, dx, _, rfl, s3 _ _ hp0, nm, _, rfl, rfl, p, rt, td, ys, _, _, .str z, rfl, S0.same s3, .dat (.str z), fun _ s' es => ?_, fun z' => absurd (hD.symm.trans z') (by decide)⟩
      cases es
      refine ⟨b', _, _, val_at S0.nd hz hib, sqt_same (Same.refl _) hb', rfl, ?_⟩
      refine ⟨(by show 2 ≤ sizeLine; decide), fun p1 hp1 => ⟨p1, .list [.str y, .int m], rfl, .inl ⟨.lst (SqL.of upd_same) (.cons (.str _) (.cons (.int _) .nil)), layp⟩, shp.ok, depp, Nat.le_trans shp.len (by decide), ?_⟩⟩
      have t1 := Same.new (o := .lst [.str y, .int m]) (Same.refl H3) hp1
      refine ⟨_, rfl, _, rfl, (by show 2 ≤ sizeLine; decide), fun p2 hp2 => ⟨p2, .list [.str y, .int m], rfl, .inl ⟨.lst (SqL.of upd_same) (.cons (.str _) (.cons (.int _) .nil)), layp⟩, shp.ok, depp, Nat.le_trans shp.len (by decide), ?_⟩⟩
      have t2 := Same.new (o := .lst [.str y, .int m]) t1 hp2
      refine ⟨rfl, false, by simp, iteF ?_⟩
      -- kind by name, many by place
      refine ⟨_, rfl, p, dx, _, rfl, t2 _ _ (s3 _ _ hp0), nk, _, rfl, rfl, p, rt, td, ys, _, _, .str z, rfl, S0.same (s3.trans t2), .dat (.str z), fun _ s' es => ?_, fun z' => absurd (hD.symm.trans z') (by decide)⟩
      cases es
      refine ⟨b', _, _, val_at S0.nd hz hib, sqt_same (t2) hb', rfl, ?_⟩
      refine ⟨_, rfl, p, dx, _, rfl, t2 _ _ (s3 _ _ hp0), nm, _, rfl, p, rt, td, ys, _, _, .str z, rfl, S0.same (s3.trans t2), .dat (.str z), fun _ s' es => ?_, fun z' => absurd (hD.symm.trans z') (by decide)⟩
      cases es
      refine ⟨b', _, _, val_at S0.nd hz hib, sqt_same (t2) hb', rfl, ?_⟩
      refine ⟨(by show 2 ≤ sizeLine; decide), fun p3 hp3 => ⟨p3, .list [.str y, .int m], rfl, .inl ⟨.lst (SqL.of upd_same) (.cons (.str _) (.cons (.int _) .nil)), layp⟩, shp.ok, depp, Nat.le_trans shp.len (by decide), ?_⟩⟩
      have t3 := Same.new (o := .lst [.str y, .int m]) t2 hp3
      refine ⟨_, rfl, _, rfl, (by show 2 ≤ sizeLine; decide), fun p4 hp4 => ⟨p4, .list [.str y, .int m], rfl, .inl ⟨.lst (SqL.of upd_same) (.cons (.str _) (.cons (.int _) .nil)), layp⟩, shp.ok, depp, Nat.le_trans shp.len (by decide), ?_⟩⟩
      have t4 := Same.new (o := .lst [.str y, .int m]) t3 hp4
      refine ⟨rfl, false, by simp, iteF ?_⟩
      exact ⟨some (.str z), some (.str y), some (.int m), rfl, s3.trans t4⟩
    · rintro σ H3 ⟨v3, v4, v5, rfl, s3⟩
      have A3 := dp_sameAll s3 _ _ A0
      refine ⟨_, rfl, l, rfl, ⟨_, s3.seq l0⟩, fun W hW => lc_list (K := K) (a := l) (xs := xs) (fun i H6 => Same H3 H6 ∧ H6 W = some (.lst (((ds.take i).map nameOf).map V.str)))
        ⟨Same.new (Same.refl H3) hW, upd_same⟩ (fun i H6 _ ⟨z, _⟩ => z.seq (s3.seq l0)) ?_ ?_⟩
      · rintro i x H6 hi ⟨s6, eD⟩
        have hi2 := (List.getElem?_eq_some_iff.mp hi).1
        obtain ⟨b, z, y, m, rfl, he, hb, _⟩ := rowAt hi (dp_sameAll s6 _ _ A3)
        refine ⟨rfl, ⟨_, rfl, b, _, 0, _, rfl, rfl, hb, atI_nat (j := 0) rfl, _, eD, ?_, ?_, ?_⟩⟩
        · rw [List.length_map, List.length_map, List.length_take, sizeLine_eq]
          omega
        · exact fun c o e => by
            rw [upd_ne (ne_of_none e hW)]
            exact s6 c o e
        · rw [upd_same, take_snoc he, List.map_append, List.map_append]
          rfl
      · rintro H6 ⟨s6, eW⟩
        rw [hlx, List.take_length] at eW
        have s06 := s3.trans s6
        have hpos : 0 < xs.length := by
          rw [hlx]
          exact List.length_pos_iff.mpr hne
        obtain ⟨b0, z0, y0, m0, hx0', he0, hb0, hn0, hy0, m00, m04⟩ := rowAt (List.getElem?_eq_getElem hpos) (dp_sameAll s06 _ _ A0)
        have hx0 : xs[0]? = some (.ref b0) := by rw [List.getElem?_eq_getElem hpos, hx0']
        have hw0 : ((ds.map nameOf).map V.str)[0]? = some (.str z0) := by
          rw [List.getElem?_map, List.getElem?_map, he0]
          rfl
        have nl0 := name_len hn0
        have z8 : (Str.ofString "zzzzzzzz").length = 8 := by decide +kernel
        refine ⟨_, rfl, W, _, 0, _, rfl, rfl, SqL.of eW, atI_nat (j := 0) hw0, ⟨_, rfl⟩, z0, rfl, rfl, by omega, _, rfl, W, _, 0, _, rfl, rfl, SqL.of eW, atI_nat (j := 0) hw0, (by show 1 ≤ sizeLine; decide), fun p1 hp1 => ?_⟩
        have t1 := Same.new (o := .tup [.str z0]) (Same.refl H6) hp1
        refine ⟨_, rfl, W, _, 0, _, rfl, rfl, SqL.of (t1 _ _ eW), atI_nat (j := 0) hw0, (by show 1 ≤ sizeLine; decide), fun p2 hp2 => ?_⟩
        have t2 := Same.new (o := .lst [.str z0]) t1 hp2
        refine fun p3 hp3 => ?_
        have t3 := Same.new (o := .dK []) t2 hp3
        refine ⟨_, rfl, l, xs, 0, _, rfl, rfl, (s06.trans t3).seq l0, atI_nat (j := 0) hx0, (by show 10 ≤ sizeLine; decide), fun p4 hp4 => ?_⟩
        have t4 := Same.new (o := .lst [.non, .int 5, .bl true, .str "", .str "A", .str (Txt.upper z0), .ref p1, .ref p2, .ref p3, .ref b0]) t3 hp4
        refine ⟨_, rfl, _, rfl, _, rfl, W, _, 0, _, rfl, rfl, SqL.of (t4 _ _ eW), atI_nat (j := 0) hw0, _, _, rfl, rfl, (by rw [z8, sizeLine_eq]; omega), (by show 2 ≤ sizeLine; decide), fun p5 hp5 => ?_⟩
        have t5 := Same.new (o := .lst [.str (z0 ++ "zzzzzzzz"), .str "zzzzzz"]) t4 hp5
        refine ⟨p4, p5, _, _, rfl, rfl, Same.new (Same.refl _) hp5 _ _ upd_same, upd_same, (by show 12 ≤ sizeLine; decide), fun p6 hp6 => ?_⟩
        have t6 := Same.new (o := .lst ([.non, .int 5, .bl true, .str "", .str "A", .str (Txt.upper z0), .ref p1, .ref p2, .ref p3, .ref b0] ++ [.str (z0 ++ "zzzzzzzz"), .str "zzzzzz"])) t5 hp6
        have sA := s06.trans t6
        have GA := Gn.same sA
        have n6 := (Gn.same (s06.trans t5)).nd hp6
        refine ⟨d, g, c, p6, _, _, rfl, GA, by omega, upd_same, n6.2, (by intro z; cases z), (by show 12 < 2 ^ 50; decide), fun v H7 hv G7 k7 => ?_⟩
        have u6 := Same.new (o := .lst ([.non, .int 5, .bl true, .str "", .str "A", .str (Txt.upper z0), .ref p1, .ref p2, .ref p3, .ref b0] ++ [.str (z0 ++ "zzzzzzzz"), .str "zzzzzz"])) (Same.refl _) hp6
        have u5 := (Same.new (o := .lst [.str (z0 ++ "zzzzzzzz"), .str "zzzzzz"]) (Same.refl _) hp5).trans u6
        have u4 := (Same.new (o := .lst [.non, .int 5, .bl true, .str "", .str "A", .str (Txt.upper z0), .ref p1, .ref p2, .ref p3, .ref b0]) (Same.refl _) hp4).trans u5
        have u3 := (Same.new (o := .dK []) (Same.refl _) hp3).trans u4
        have u2 := (Same.new (o := .lst [.str z0]) (Same.refl _) hp2).trans u3
        have kA : Kp d g H H7 := (Kp.of sA).trans k7
        have qA : Same (hid [d, g] H) (hid [d, g] H7) := hid_kp2 kA
        have Sq := S.same qA
        have S7 := Sq.same hid_le
        have Aq := dp_sameAll qA _ _ hA
        have n1 := (Gn.same s06).nd hp1
        have n2 := (Gn.same (s06.trans t1)).nd hp2
        have n3 := (Gn.same (s06.trans t2)).nd hp3
        have nW := (Gn.same s3).nd hW
        have eW7 : H7 W = some (.lst ((ds.map nameOf).map V.str)) := k7 _ _ nW.1 nW.2 (t6 _ _ eW)
        have nok : ∀ w ∈ ds.map nameOf, PyData.strOk w = true ∧ w.length ≤ 8 := fun w hw => by
          obtain ⟨e, he, rfl⟩ := List.mem_map.mp hw
          obtain ⟨s, y, m, rfl, hn, _⟩ := sign_full (List.all_eq_true.mp hsg e he)
          exact ⟨name_strOk hn, (name_len hn).2⟩
        have at7 : ∀ {x : Addr} {o : HO}, x ≠ d → x ≠ g → (upd (upd (upd (upd (upd (upd H6 p1 (.tup [.str z0])) p2 (.lst [.str z0])) p3 (.dK [])) p4 (.lst [.non, .int 5, .bl true, .str "", .str "A", .str (Txt.upper z0), .ref p1, .ref p2, .ref p3, .ref b0])) p5 (.lst [.str (z0 ++ "zzzzzzzz"), .str "zzzzzz"])) p6 (.lst ([.non, .int 5, .bl true, .str "", .str "A", .str (Txt.upper z0), .ref p1, .ref p2, .ref p3, .ref b0] ++ [.str (z0 ++ "zzzzzzzz"), .str "zzzzzz"]))) x = some o → hid [d, g] H7 x = some o := fun xd xg q => hid_get xd xg (k7 _ _ xd xg q)
        obtain ⟨dm, hDq, hSh, hcase⟩ : ∃ dm, Dx K (hid [d, g] H7) v dm ∧ Shw 320 dm ∧ (prt 18 dm = true ∨ dm = .dict []) := by
          have ps0 : prt 1 (.str z0) = true := prt_str (by omega) (name_strOk hn0)
          obtain ⟨u1', u2'⟩ := upper_ok hn0
          have mk : ∀ {dm : PyData}, Dp K (hid [d, g] H7) v dm → Shw 320 dm → prt 18 dm = true → ∃ dm, Dx K (hid [d, g] H7) v dm ∧ Shw 320 dm ∧ (prt 18 dm = true ∨ dm = .dict []) := fun h1 h2 h3 => ⟨_, .dat h1 (prt_iff.mp h3).2.1, h2, .inl h3⟩
          have hv' : v ∈ [V.non, .int 5, .bl true, .str "", .str "A", .str (Txt.upper z0), .ref p1, .ref p2, .ref p3, .ref b0, .str (z0 ++ "zzzzzzzz"), .str "zzzzzz"] := hv
          simp only [List.mem_cons, List.not_mem_nil, or_false] at hv'
          rcases hv' with rfl | rfl | rfl | rfl | rfl | rfl | rfl | rfl | rfl | rfl | rfl | rfl
          · exact mk .non (shw_none.mono (by decide)) (by decide)
          · exact mk (.int 5) ((shw_int (by decide) (by decide)).mono (by decide)) (by decide)
          · exact mk (.bl true) ((shw_bool true).mono (by decide)) (by decide)
          · exact mk (.str _) ⟨by decide +kernel, by decide +kernel⟩ (by decide +kernel)
          · exact mk (.str _) ⟨by decide +kernel, by decide +kernel⟩ (by decide +kernel)
          · exact mk (.str _) ((shw_str u1' u2').mono (by decide)) (prt_mono (prt_str (by omega) u2') (by decide))
          · refine mk (dm := .tuple [.str z0]) (.tup (SqT.of (at7 n1.1 n1.2 (u2 _ _ upd_same))) (.cons (.str _) .nil)) ((shw_tup (n := 82) ?_).mono (by show 82 * 1 + 2 * 1 + 3 ≤ 320; decide)) (prt_mono (prt_tup (n := 1) ?_ (by show 1 ≤ 1000; decide)) (by decide))
            · intro e he
              rw [List.mem_singleton.mp he]
              exact shw_str (n := 8) nl0.2 (name_strOk hn0)
            · intro e he
              rw [List.mem_singleton.mp he]
              exact ps0
          · refine mk (dm := .list [.str z0]) (.lst (SqL.of (at7 n2.1 n2.2 (u3 _ _ upd_same))) (.cons (.str _) .nil)) ((shw_lst (n := 82) ?_).mono (by show 82 * 1 + 2 * 1 + 3 ≤ 320; decide)) (prt_mono (prt_lst (n := 1) ?_ (by show 1 ≤ 1000; decide)) (by decide))
            · intro e he
              rw [List.mem_singleton.mp he]
              exact shw_str (n := 8) nl0.2 (name_strOk hn0)
            · intro e he
              rw [List.mem_singleton.mp he]
              exact ps0
          · exact ⟨.dict [], .emp (at7 n3.1 n3.2 (u4 _ _ upd_same)), shw_dict.mono (by decide), .inr rfl⟩
          · obtain ⟨y5, yok⟩ := kindV_ok y0 hy0
            refine mk (dm := .tuple [.str z0, .str y0, .int m0]) ?_ ((row_shw hn0 hy0 m00 m04).mono (by decide)) (prt_mono (row_prt hn0 (by omega) yok) (by decide))
            obtain ⟨e, he, hd⟩ := dp_at' Aq hx0
            rw [he0] at he
            cases he
            exact hd
          · have hl8 : (z0 ++ Str.ofString "zzzzzzzz").length ≤ 16 := by
              rw [app_len, z8]
              omega
            have hok8 : PyData.strOk (z0 ++ Str.ofString "zzzzzzzz") = true := by
              show (z0.cps ++ (Str.ofString "zzzzzzzz").cps).all (· < 0x110000) = true
              have h1 : z0.cps.all (· < 0x110000) = true := name_strOk hn0
              have h2 : (Str.ofString "zzzzzzzz").cps.all (· < 0x110000) = true := by decide +kernel
              rw [Array.all_append, h1, h2]
              rfl
            exact mk (.str _) ((shw_str hl8 hok8).mono (by decide)) (prt_mono (prt_str (by omega) hok8) (by decide))
          · exact mk (.str _) ⟨by decide +kernel, by decide +kernel⟩ (by decide +kernel)
        have hD7 : Dx K H7 v dm := dx_ext (LamX.ExtN.of hid_le) hDq
        have Tab7 : LamX.Tabs T H7 := tabs_kp Gn kA hTab
        have Kq7 : Kq d g H H7 := fun b o n1 n2 _ e => kA b o n1 n2 e
        refine ⟨fun σ' H' => σ' = [some (.ref d), some (.ref p), some (.ref l), v3, v4, v5, some (.ref W), none, some (.ref p4), some v] ∧ H' = H7 ∧ hasD (ds.map nameOf) dm = false, ?_, ?_⟩
        · rcases hcase with hp | rfl
          · obtain ⟨hf, hlay7, hdep7⟩ := prt_iff.mp hp
            have hDp : Dp K H7 v dm := by
              cases hD7 with
              | dat h _ => exact h
              | emp h => simp [PyData.canLay0] at hlay7
            have shd : SeqAt.shaped dm = true := by
              unfold SeqAt.shaped
              rw [hlay7, Bool.true_and, decide_eq_true_iff]
              omega
            refine ⟨_, rfl, _, rfl, .inl ⟨dm, (ds.map nameOf).map PyData.str, hDp, .lst (SqL.of eW7) (dp_strs _ _ _), shd, shaped_strs _ (fun w hw => (nok w hw).1), ?_⟩⟩
            refine ⟨_, rfl, ?_⟩
            refine ite2 (fun h5 => ?_) (fun h5 => ?_)
            · exact k _ (G7.mono (by omega)) Kq7 Tab7
            · refine ⟨rfl, rfl, ?_⟩
              cases dm with
              | str s =>
                show decide (s ∈ ds.map nameOf) = false
                rw [decide_eq_false_iff_not]
                intro hm
                refine h5 ?_
                rw [List.any_eq_true]
                refine ⟨.str s, List.mem_map.mpr ⟨s, hm, rfl⟩, ?_⟩
                show (s == s) = true
                simp
              | _ => rfl
          · cases hD7 with
            | dat h l' => simp [PyData.canLay0] at l'
            | emp h => exact ⟨_, rfl, _, rfl, .inr ⟨_, W, _, rfl, rfl, h, SqL.of eW7, false, rfl, iteF ⟨rfl, rfl, rfl⟩⟩⟩
        · rintro σ' H' ⟨rfl, rfl, hno⟩
          obtain ⟨dx7, hp7⟩ := S7.ob
          have nk : (sgF rt td).lookup ("kind" : Str) = none := noF (by decide +kernel) (by decide +kernel)
          have nm : (sgF rt td).lookup ("many" : Str) = none := noF (by decide +kernel) (by decide +kernel)
          have shP : Shw 1000 (.tuple [.str "sign", dm]) := (shw_tup (n := 320) fun e he => by
            simp only [List.mem_cons, List.not_mem_nil, or_false] at he
            rcases he with rfl | rfl
            · exact ⟨by decide +kernel, by decide +kernel⟩
            · exact hSh).mono (by show 320 * 2 + 2 * 2 + 3 ≤ 1000; decide)
          have depP : PyData.depth (.tuple [.str "sign", dm]) ≤ 100 := by
            have h1 : PyData.depth dm ≤ 18 := by
              rcases hcase with h | rfl
              · exact (prt_iff.mp h).2.2
              · decide
            simp only [PyData.depth, PyData.depthAll]
            omega
          refine ⟨Tab7, fun H8 e8 T8 => ?_⟩
          have S8 := S7.ext e8
          have D8 := dx_ext e8 hD7
          refine ⟨_, rfl, p, dx7, _, rfl, e8 _ _ hp7 (by intro _ z; cases z), nk, _, rfl, p, rt, td, ys, _, v, dm, rfl, S8, D8.dm, (fun z => absurd (hno.symm.trans z) (by decide)), fun _ dd hdd => .inr ⟨dd, v, rfl, rfl, upd_same, fun p1 H9 s9 hp1 e1 => ?_⟩⟩
          have x1 := Same.new (o := .xd [(("name" : Str), v)]) (Same.refl H8) hdd
          have s89 := x1.trans s9
          have e79 : LamX.ExtN H' H9 := e8.trans (LamX.ExtN.of s89)
          have D9 := dx_ext (LamX.ExtN.of s89) D8
          refine ⟨p1, _, rfl, .inr ⟨"sign", v, dm, rfl, SqT.of e1, D9⟩, shP.ok, depP, Nat.le_trans shP.len (by decide), ?_⟩
          refine ⟨_, rfl, (by show 2 ≤ sizeLine; decide), fun p2 hp2 => ⟨p2, _, rfl, .inr ⟨"sign", v, dm, rfl, SqT.of upd_same, dx_ext (LamX.ExtN.of (Same.new (Same.refl H9) hp2)) D9⟩, shP.ok, depP, Nat.le_trans shP.len (by decide), ?_⟩⟩
          have y1 := Same.new (o := .tup [.str "sign", v]) (Same.refl H9) hp2
          refine ⟨rfl, false, by simp, iteF ?_⟩
          -- many, by name
          have eA := e79.trans (LamX.ExtN.of y1)
          have TA := (T8.ext s89).ext y1
          refine ⟨TA, fun HB eB TB' => ?_⟩
          have eAB := eA.trans eB
          have SB := S7.ext eAB
          have DB := dx_ext eAB hD7
          refine ⟨_, rfl, p, dx7, _, rfl, eAB _ _ hp7 (by intro _ z; cases z), nm, _, rfl, rfl, p, rt, td, ys, _, v, dm, rfl, SB, DB.dm, (fun z => absurd (hno.symm.trans z) (by decide)), fun _ de hde => .inr ⟨de, v, rfl, rfl, upd_same, fun p3 HC sC hp3 e3 => ?_⟩⟩
          have x2 := Same.new (o := .xd [(("name" : Str), v)]) (Same.refl HB) hde
          have sBC := x2.trans sC
          have DC := dx_ext (LamX.ExtN.of sBC) DB
          refine ⟨p3, _, rfl, .inr ⟨"sign", v, dm, rfl, SqT.of e3, DC⟩, shP.ok, depP, Nat.le_trans shP.len (by decide), ?_⟩
          refine ⟨_, rfl, (by show 2 ≤ sizeLine; decide), fun p4' hp4' => ⟨p4', _, rfl, .inr ⟨"sign", v, dm, rfl, SqT.of upd_same, dx_ext (LamX.ExtN.of (Same.new (Same.refl HC) hp4')) DC⟩, shP.ok, depP, Nat.le_trans shP.len (by decide), ?_⟩⟩
          have y2 := Same.new (o := .tup [.str "sign", v]) (Same.refl HC) hp4'
          refine ⟨rfl, ?_⟩
          rw [decide_eq_true rfl]
          have eEnd := eAB.trans (LamX.ExtN.of (sBC.trans y2))
          refine k _ ?_ (fun b o n1 n2 nt e => eEnd b o (Kq7 b o n1 n2 nt e) nt) ((TB'.ext sBC).ext y2)
          obtain ⟨ne, gs, cs, r, u, q1, q2, q3, q4⟩ := G7
          exact ⟨ne, gs, cs, r, u, eEnd _ _ q1 (by intro _ z; cases z), eEnd _ _ q2 (by intro _ z; cases z), eEnd _ _ q3 (by intro _ z; cases z), by omega⟩
end
end K1
set_option Elab.async false
set_option linter.all false
set_option maxRecDepth 100000
set_option maxHeartbeats 4000000
namespace K1
open PySem PySem.Spec PyProof.Rows L2
/-! ### lists of signs, as they are compared -/
structure goodM (es : List PyData) : Prop where
  al : ∀ e ∈ es, signD e = true ∧ okD e = true
  nd : (es.map nameOf).Nodup
  len : es.length ≤ 24
theorem goodM.prt {es : List PyData} (h : goodM es) : ∀ e ∈ es, prt 2 e = true := fun e he => by
  obtain ⟨h1, h2⟩ := h.al e he
  obtain ⟨s, y, m, rfl, hn, hy, hys⟩ := sign_row h2 h1
  exact row_prt hn hy hys
theorem goodM.lst {es : List PyData} (h : goodM es) : K1.prt 3 (.list es) = true := prt_lst h.prt (by have := h.len; omega)
theorem goodM.tup {es : List PyData} (h : goodM es) : K1.prt 3 (.tuple es) = true := prt_tup h.prt (by have := h.len; omega)
theorem prt_shaped {n : Nat} {d : PyData} (h : prt n d = true) (hn : n ≤ 64) : SeqAt.shaped d = true := by
  obtain ⟨_, h2, h3⟩ := prt_iff.mp h
  unfold SeqAt.shaped
  rw [h2, Bool.true_and, decide_eq_true_iff]
  omega
theorem goodM.signs {es : List PyData} (h : goodM es) (hne : es ≠ []) : signsD (.list es) = true ∧ signsD (.tuple es) = true := by
  have h1 : decide (1 ≤ es.length ∧ es.length ≤ 24) = true := decide_eq_true ⟨List.length_pos_iff.mpr hne, h.len⟩
  have h2 : goRows es [] = true := by
    rw [go_eq, Bool.and_eq_true, List.all_eq_true, decide_eq_true_iff]
    exact ⟨fun e he => (h.al e he).1, h.nd⟩
  constructor
  · show (true && (decide (1 ≤ es.length ∧ es.length ≤ 24) && goRows es [])) = true
    rw [h1, h2]
    rfl
  · show (true && (decide (1 ≤ es.length ∧ es.length ≤ 24) && goRows es [])) = true
    rw [h1, h2]
    rfl
theorem goodM.perm {es fs : List PyData} (h : goodM es) (p : fs.Perm es) : goodM fs :=
  ⟨fun e he => h.al e (p.mem_iff.mp he), (p.map nameOf).nodup_iff.mpr h.nd, by rw [p.length_eq]; exact h.len⟩
theorem goodM.sub {es fs : List PyData} (h : goodM es) (p : fs.Sublist es) : goodM fs :=
  ⟨fun e he => h.al e (p.subset he), (p.map nameOf).nodup h.nd, Nat.le_trans p.length_le h.len⟩
theorem goodM.head {e0 e1 : PyData} {r : List PyData} (h : goodM (e0 :: r)) (h1 : signD e1 = true) (h2 : okD e1 = true) (h3 : nameOf e1 = nameOf e0) : goodM (e1 :: r) := by
  refine ⟨fun e he => ?_, ?_, h.len⟩
  · rcases List.mem_cons.mp he with rfl | he
    · exact ⟨h1, h2⟩
    · exact h.al e (List.mem_cons_of_mem _ he)
  · have := h.nd
    rw [List.map_cons] at this ⊢
    rw [h3]
    exact this
theorem dpAll_rev {K : PySem.W.Frag} {H : Hp} : ∀ {vs : List V} {ds : List PyData}, DpAll K H vs ds → DpAll K H vs.reverse ds.reverse
  | _, _, .nil => .nil
  | _, _, .cons h t => by
    rw [List.reverse_cons, List.reverse_cons]
    exact dpAll_snoc (dpAll_rev t) h
/-- a list of signs that stands -/
def Mate (K : PySem.W.Frag) (H : Hp) (x : V) : Prop := ∃ (a : Addr) (zs : List V) (es : List PyData), x = .ref a ∧ SqL K H a zs ∧ DpAll K H zs es ∧ goodM es
theorem Mate.same {K : PySem.W.Frag} {H H' : Hp} {x : V} (h : Mate K H x) (s : Same H H') : Mate K H' x := by
  obtain ⟨a, zs, es, e, h1, h2, h3⟩ := h
  exact ⟨a, zs, es, e, s.seq h1, dp_sameAll s _ _ h2, h3⟩
/-- a new instance's making keeps all that stood -/
theorem same_made {H H' : Hp} {x dx C : Addr} (hx : H x = none) (hdx : H dx = none) (h : ∀ b o, (upd (upd H dx (.own x)) x (.ins C dx [])) b = some o → b ≠ x → H' b = some o) : Same H H' := fun b o e => by
  have n1 := ne_of_none e hx
  have n2 := ne_of_none e hdx
  exact h b o (by rw [upd_ne n1, upd_ne n2]; exact e) n1
theorem same_made0 {H : Hp} {x dx C : Addr} (hx : H x = none) (hdx : H dx = none) : Same H (upd (upd H dx (.own x)) x (.ins C dx [])) := fun b o e => by
  rw [upd_ne (ne_of_none e hx), upd_ne (ne_of_none e hdx)]
  exact e
theorem same_hid1 {H H' : Hp} {p : Addr} (s : Same H H') (h : H p = none) : Same H (hid [p] H') := fun b o e => by
  rw [hid_at (by simp only [List.mem_cons, List.not_mem_nil, or_false]; exact ne_of_none e h)]
  exact s b o e
theorem mate_add {K : PySem.W.Frag} {H H5 H8 : Hp} {O q4 : Addr} {ms zs : List V} {es : List PyData} (sH : Same H H5) (hO0 : H O = none) (hm : ∀ x ∈ ms, Mate K (hid [O] H5) x) (s58 : Same H5 H8) (e4 : H8 q4 = some (.lst zs)) (n4 : q4 ≠ O)
    (dz : Same H (hid [O] (upd H8 O (.lst (ms ++ [.ref q4])))) → DpAll K (hid [O] (upd H8 O (.lst (ms ++ [.ref q4])))) zs es) (ge : goodM es) :
    Same H (upd H8 O (.lst (ms ++ [.ref q4]))) ∧ ∀ x ∈ ms ++ [.ref q4], Mate K (hid [O] (upd H8 O (.lst (ms ++ [.ref q4])))) x := by
  have sE : Same H (upd H8 O (.lst (ms ++ [.ref q4]))) := fun b o e => by
    rw [upd_ne (ne_of_none e hO0)]
    exact s58 _ _ (sH _ _ e)
  refine ⟨sE, fun x hx => ?_⟩
  rcases List.mem_append.mp hx with hx | hx
  · refine (hm x hx).same (hid_of fun a o n e => ?_)
    rw [upd_ne (by simpa using n)]
    exact s58 _ _ e
  · rw [List.mem_singleton.mp hx]
    refine ⟨q4, zs, es, rfl, SqL.of ?_, dz (same_hid1 sE hO0), ge⟩
    rw [hid_at (by simpa using n4), upd_ne n4]
    exact e4
theorem cut_m1 {xs : List V} (h : 0 < xs.length) : cutV xs none (some (-1)) = xs.take (xs.length - 1) := by
  unfold cutV
  have e : HT.sIx xs.length xs.length (some (-1)) = xs.length - 1 := by
    show (if (-1 : Int) < 0 then ((-1 : Int) + (xs.length : Int)).toNat else min (-1 : Int).toNat xs.length) = _
    rw [if_pos (by decide)]
    omega
  rw [HT.sIx_none, e]
  rfl
theorem shw_bools {bs : List Bool} (h : bs.length ≤ 10) : Shw 200 (.list (bs.map PyData.bool)) := (shw_lst (n := 10) fun e he => by
  obtain ⟨b, _, rfl⟩ := List.mem_map.mp he
  exact shw_bool b).mono (by rw [List.length_map]; omega)
theorem lay_bools : ∀ bs : List Bool, PyData.canLayAll0 (bs.map PyData.bool) = true
  | [] => rfl
  | b :: r => by
    have ih := lay_bools r
    simpa [PyData.canLayAll0, PyData.canLay0] using ih
theorem dep_bools : ∀ bs : List Bool, PyData.depthAll (bs.map PyData.bool) ≤ 1
  | [] => by simp [PyData.depthAll]
  | b :: r => by
    have ih := dep_bools r
    simp [PyData.depthAll, PyData.depth] at ih ⊢
    omega
theorem dp_bools (K : PySem.W.Frag) (H : Hp) : ∀ bs : List Bool, DpAll K H (bs.map V.bl) (bs.map PyData.bool)
  | [] => .nil
  | b :: r => .cons (.bl b) (dp_bools K H r)
end K1
set_option Elab.async false
set_option linter.all false
set_option maxRecDepth 100000
set_option maxHeartbeats 4000000
namespace K1
open PySem PySem.Spec PyProof.Rows L2
abbrev sAlike : Stmt := topS 35
abbrev nAlike : List Str := ["_law_stock", "_law_lines", "_law_others", "_law_mate", "_law_told", "_law_matter"]
theorem scAlike : FnScope nAlike ["_law_stock", "_law_lines"] (defScope sAlike) := ⟨rfl, rfl, rfl, by decide +kernel, rfl, by decide +kernel, by decide +kernel⟩
def spAlike (K : PySem.W.Frag) (C : Addr) : Sp := fun vs H Q _ => ∃ (p rt td l : Addr) (ys xs : List V) (ds : List PyData), vs = [.ref p, .ref l] ∧ SgAt K C H p rt td ys (ds.map nameOf) ∧ DpAll K H ys ds ∧ SqL K H l xs ∧ DpAll K H xs ds ∧ okD (.list ds) = true ∧ ds.all signD = true ∧ ds ≠ [] ∧ ds.length ≤ 24 ∧
  ∀ H', Same H H' → Q (.bl true) H'
section
variable {P : Program} {w : World} {K : PySem.W.Frag} {mg : Str → Option Value} {base : Heap}
theorem ok_alike {f C CN fI fE cc : Addr} {fd fdI fdE : FuncData} (F : FunC K "_law_alike_right" sAlike f fd cc) (B : Cs mg) (G : SgC K C) (GI : SgI K C) (gC : mg "Signs" = some (.ref C))
    (M : Mk K C fI) (FI : FnOk P w K mg base (L2.CX P w) 5 fI fdI ["self", "rows"] (spInit K C CN)) (bI : Binds K fdI ["self", "rows"] [])
    (FE : FnOk P w K mg base CX0 1 fE fdE ["self", "other"] (spSame K C)) (sE : PySem.W.findIn K (.ref C) "__eq__" = some (some (.ref fE))) (iE : PySem.W.isFn K (.ref fE) = true) (bE : Binds K fdE ["self", "other"] [])
    (sN : PySem.W.findIn K (.ref C) "__ne__" = some (some (.builtin "object.__ne__"))) (nF : ∀ d : PyData, PySem.W.notFirst K C (.type (tyOf d)) = true) : FnG P w K mg base 9 f fd ["_law_stock", "_law_lines"] (spAlike K C) := by
  refine F.okG scAlike (fun vs H Q E h => ?_) (fun A outer s H vs Q E hg hr h => ?_)
  · obtain ⟨p, rt, td, l, ys, xs, ds, rfl, _⟩ := h
    rfl
  · obtain ⟨p, rt, td, l, ys, xs, ds, rfl, S, hY, hl, hA, od', hsg, hne, hlen, k⟩ := h
    have hur : ∀ {X : Cx}, X.A = (A.deeper (envOfC "_law_alike_right" (defScope sAlike) s.heap.objs.size f (.ref cc))) → X.A.units + 101 < cLine := fun {X} e => by
      have := hr.un
      rw [e]
      omega
    refine ⟨_, pss_cons (ps_set (i := 2) scAlike.nd rfl (Or.inl rfl) (pe_lst (pa_cons (pe_revL (pv 1)) (pa_cons (pe_slice sl_list (pv 1) (po_some pe_int) po_none) (pa_cons (pe_slice sl_list (pv 1) po_none (po_some (pe_un un_neg pe_int))) (pa_cons (pe_op op_cat (pe_slice sl_list (pv 1) (po_some pe_int) po_none) (pe_slice sl_list (pv 1) po_none (po_some pe_int))) (pa_cons (pe_callTy call_list_of (by rfl) B.list boot_list (pa_cons (pv 1) pa_nil)) pa_nil)))))))
      (C8.pss_cut (ps_if (pt_cmpR op_eq (pe_ix ix_tup (pe_ix ix_list (pv 1) pe_int (fun _ _ => rfl)) pe_int (fun _ _ => rfl)) pe_str (nomark _))
        (pss_one (ps_expr (pe_bm PySem.F.plainAttrs_list PySem.F.slot_list_append PySem.F.type_list_append mt_append (pv 2) (pa_cons (pe_op op_cat (pe_lst (pa_cons (pe_tup (pa_cons (pe_ix ix_tup (pe_ix ix_list (pv 1) pe_int (fun _ _ => rfl)) pe_int (fun _ _ => rfl)) (pa_cons pe_str (pa_cons (pe_op op_mod (pe_op op_add (pe_ix ix_tup (pe_ix ix_list (pv 1) pe_int (fun _ _ => rfl)) pe_int (fun _ _ => rfl)) pe_int) pe_int) pa_nil)))) pa_nil)) (pe_slice sl_list (pv 1) (po_some pe_int) po_none)) pa_nil)))) pss_nil)
      (C8.pss_cut (ps_expr (pe_bm PySem.F.plainAttrs_list PySem.F.slot_list_append PySem.F.type_list_append mt_append (pv 2) (pa_cons (pe_op op_cat (pe_lst (pa_cons (pe_tup (pa_cons (pe_ix ix_tup (pe_ix ix_list (pv 1) pe_int (fun _ _ => rfl)) pe_int (fun _ _ => rfl)) (pa_cons (pe_ifExp (pt_cmpR op_eq (pe_ix ix_tup (pe_ix ix_list (pv 1) pe_int (fun _ _ => rfl)) pe_int (fun _ _ => rfl)) pe_str (nomark _)) pe_str pe_str) (pa_cons pe_int pa_nil)))) pa_nil)) (pe_slice sl_list (pv 1) (po_some pe_int) po_none)) pa_nil)))
      (pss_cons (ps_for PassesOwn.never rfl (pi_list (pv 2)) (pg_name (i := 3) scAlike.nd rfl (Or.inl rfl))
        (pss_one (ps_if (pt_cmpR (op_neD hr.units) (pv 3) (pe_lst pa_nil) (nomark _))
          (pss_cons (ps_set (i := 4) scAlike.nd rfl (Or.inl rfl) (pe_lst (pa_cons (pe_cmpR (op_ownEq FE sE iE bE hr) (pv 0) (pe_make M FI (hr.mono (by decide)) (by rfl) gC bI .nil passX (pa_cons (pv 3) pa_nil)) (nomark _))
              (pa_cons (pe_cmpR (op_ownNe FE sE sN GI.hm iE bE hr) (pv 0) (pe_make M FI (hr.mono (by decide)) (by rfl) gC bI .nil passX (pa_cons (pv 3) pa_nil)) (nomark _))
              (pa_cons (pe_cmpR (op_ownEq FE sE iE bE hr) (pe_make M FI (hr.mono (by decide)) (by rfl) gC bI .nil passX (pa_cons (pe_callTy call_tuple_of (by rfl) B.tuple boot_tuple (pa_cons (pv 3) pa_nil)) pa_nil)) (pv 0) (nomark _)) pa_nil)))))
          (pss_one (ps_if (pt_cmpR op_ne (pe_callB (call_repr hg (hur rfl)) (by rfl) B.repr bootRepr (pa_cons (pv 4) pa_nil)) (pe_callB (call_repr hg (hur rfl)) (by rfl) B.repr bootRepr (pa_cons (pe_lst (pa_cons (pe_cmpR (op_eqD hr.units) (pv 3) (pv 1) (nomark _)) (pa_cons (pe_cmpR (op_neD hr.units) (pv 3) (pv 1) (nomark _)) (pa_cons (pe_cmpR (op_eqD hr.units) (pv 3) (pv 1) (nomark _)) pa_nil)))) pa_nil)) (nomark _)) (pss_one (ps_ret pe_bl)) pss_nil))) pss_nil)))
      (pss_cons (ps_setLc (i := 4) (own := [("_law_matter", 5)]) (g := gName 5) (tt := tYes) (te := tOp (rOwn K C (spSame K C) fun b => b) (tVar 0) (tVar 5)) rfl scAlike.nd rfl rfl (sw_true rfl rfl rfl (by decide +kernel)) (pi_list (pe_lst (pa_cons pe_non (pa_cons (pv 1) (pa_cons (pe_callB call_len (by rfl) B.len PySem.boot_len (pa_cons (pv 1) pa_nil)) (pa_cons (pe_ix ix_tup (pe_ix ix_list (pv 1) pe_int (fun _ _ => rfl)) pe_int (fun _ _ => rfl)) (pa_cons pe_dnewK pa_nil))))))) (blkOk_by (N := nAlike) (sc := defScope sAlike) (by decide +kernel)) (fun _ _ _ _ _ => pg_name (i := 5) scAlike.nd rfl (Or.inl rfl)) (fun _ _ _ _ _ => pts_nil)
          (fun _ _ _ _ _ => pe_cmpR (op_ownEq FE sE iE bE hr) (pv 0) (pv 5) (nomark _)))
      (pss_one (ps_ret (pe_cmpR op_eq (pe_callB (call_repr hg (hur rfl)) (by rfl) B.repr bootRepr (pa_cons (pv 4) pa_nil)) (pe_callB (call_repr hg (hur rfl)) (by rfl) B.repr bootRepr (pa_cons (pe_op op_rep (pe_lst (pa_cons pe_bl pa_nil)) pe_int) pa_nil)) (nomark _)))))))), ?_⟩
    have hlx := dpAll_len hA
    have hpos : 0 < xs.length := by
      rw [hlx]
      exact List.length_pos_iff.mpr hne
    have gds : goodM ds := ⟨fun e he => by
      obtain ⟨i, hi⟩ := List.getElem?_of_mem he
      exact ⟨List.all_eq_true.mp hsg e he, (lst_at od' hi).1⟩, S.nd, hlen⟩
    have cT : cutV xs none (some (1 : Int)) = xs.take 1 := cut_to (n := 1) hpos
    have cF : cutV xs (some (1 : Int)) none = xs.drop 1 := cut_from (n := 1) hpos
    have cM := cut_m1 hpos
    have lF : (cutV xs (some (1 : Int)) none).length ≤ 24 := by have := cutV_length xs (some (1 : Int)) none; omega
    have lT : (cutV xs none (some (1 : Int))).length ≤ 24 := by have := cutV_length xs none (some (1 : Int)); omega
    have dF : ∀ {H' : Hp}, DpAll K H' xs ds → DpAll K H' (cutV xs (some (1 : Int)) none) (ds.drop 1) := fun z => by
      rw [cF]
      exact dpAll_drop 1 z
    have dT : ∀ {H' : Hp}, DpAll K H' xs ds → DpAll K H' (cutV xs none (some (1 : Int))) (ds.take 1) := fun z => by
      rw [cT]
      exact dpAll_take 1 z
    have dM : ∀ {H' : Hp}, DpAll K H' xs ds → DpAll K H' (cutV xs none (some (-1))) (ds.take (xs.length - 1)) := fun z => by
      rw [cM]
      exact dpAll_take _ z
    obtain ⟨e0, he0⟩ : ∃ e, ds[0]? = some e := ⟨_, List.getElem?_eq_getElem (by omega)⟩
    obtain ⟨x0, hx0⟩ : ∃ x, xs[0]? = some x := ⟨_, List.getElem?_eq_getElem hpos⟩
    obtain ⟨z0, y0, m0, rfl, hn0, hy0, m00, m04⟩ := sign_full (gds.al e0 (List.mem_of_getElem? he0)).1
    obtain ⟨b0, rfl, hb0⟩ : ∃ b, x0 = .ref b ∧ SqT K H b [.str z0, .str y0, .int m0] := by
      obtain ⟨e, he, hd⟩ := dp_at' hA hx0
      rw [he0] at he
      cases he
      obtain ⟨b, vk, vm, rfl, hb, hk, hm⟩ := row_of hd
      cases hk
      cases hm
      exact ⟨b, rfl, hb⟩
    have hds : ds = .tuple [.str z0, .str y0, .int m0] :: ds.drop 1 := by
      cases ds with
      | nil => exact absurd rfl hne
      | cons a r =>
        have : a = .tuple [.str z0, .str y0, .int m0] := by simpa using he0
        rw [this]
        rfl
    -- the others
    refine ⟨_, rfl, l, xs, rfl, hl, fun p1 hp1 => ?_⟩
    have s1 := Same.new (o := .lst xs.reverse) (Same.refl H) hp1
    refine ⟨_, rfl, 1, rfl, l, xs, rfl, s1.seq hl, fun p2 hp2 => ?_⟩
    have s2 := Same.new (o := .lst (cutV xs (some (1 : Int)) none)) s1 hp2
    refine ⟨_, rfl, 1, rfl, -1, rfl, l, xs, rfl, s2.seq hl, fun p3 hp3 => ?_⟩
    have s3 := Same.new (o := .lst (cutV xs none (some (-1)))) s2 hp3
    refine ⟨_, rfl, 1, rfl, l, xs, rfl, s3.seq hl, fun p4 hp4 => ?_⟩
    have s4 := Same.new (o := .lst (cutV xs (some (1 : Int)) none)) s3 hp4
    refine ⟨_, rfl, 1, rfl, l, xs, rfl, s4.seq hl, fun p5 hp5 => ?_⟩
    have s5 := Same.new (o := .lst (cutV xs none (some (1 : Int)))) s4 hp5
    refine ⟨p4, p5, _, _, rfl, rfl, Same.new (Same.refl _) hp5 _ _ upd_same, upd_same, (by rw [sizeLine_eq]; omega), fun p6 hp6 => ?_⟩
    have s6 := Same.new (o := .lst (cutV xs (some (1 : Int)) none ++ cutV xs none (some (1 : Int)))) s5 hp6
    refine ⟨_, rfl, l, xs, rfl, .inl (s6.seq hl), fun p7 hp7 => ?_⟩
    have s7 := Same.new (o := .lst xs) s6 hp7
    refine ⟨(by show 5 ≤ sizeLine; decide), fun O hO => ?_⟩
    have s8 := Same.new (o := .lst [.ref p1, .ref p2, .ref p3, .ref p6, .ref p7]) s7 hO
    have hO0 : H O = none := Same.free s7 hO
    have u8 := Same.new (o := .lst [.ref p1, .ref p2, .ref p3, .ref p6, .ref p7]) (Same.refl _) hO
    have u7 := (Same.new (o := .lst xs) (Same.refl _) hp7).trans u8
    have u6 := (Same.new (o := .lst (cutV xs (some (1 : Int)) none ++ cutV xs none (some (1 : Int)))) (Same.refl _) hp6).trans u7
    have u5 := (Same.new (o := .lst (cutV xs none (some (1 : Int)))) (Same.refl _) hp5).trans u6
    have u4 := (Same.new (o := .lst (cutV xs (some (1 : Int)) none)) (Same.refl _) hp4).trans u5
    have u3 := (Same.new (o := .lst (cutV xs none (some (-1)))) (Same.refl _) hp3).trans u4
    have u2 := (Same.new (o := .lst (cutV xs (some (1 : Int)) none)) (Same.refl _) hp2).trans u3
    have hA8 := dp_sameAll (same_hid1 s8 hO0) _ _ hA
    have neO : ∀ {x : Addr} {o : HO}, (upd (upd (upd (upd (upd (upd (upd H p1 (.lst xs.reverse)) p2 (.lst (cutV xs (some (1 : Int)) none))) p3 (.lst (cutV xs none (some (-1))))) p4 (.lst (cutV xs (some (1 : Int)) none))) p5 (.lst (cutV xs none (some (1 : Int))))) p6 (.lst (cutV xs (some (1 : Int)) none ++ cutV xs none (some (1 : Int))))) p7 (.lst xs)) x = some o → hid [O] (upd (upd (upd (upd (upd (upd (upd (upd H p1 (.lst xs.reverse)) p2 (.lst (cutV xs (some (1 : Int)) none))) p3 (.lst (cutV xs none (some (-1))))) p4 (.lst (cutV xs (some (1 : Int)) none))) p5 (.lst (cutV xs none (some (1 : Int))))) p6 (.lst (cutV xs (some (1 : Int)) none ++ cutV xs none (some (1 : Int))))) p7 (.lst xs)) O (.lst [.ref p1, .ref p2, .ref p3, .ref p6, .ref p7])) x = some o := fun {x o} e => by
      rw [hid_at (by simp only [List.mem_cons, List.not_mem_nil, or_false]; exact ne_of_none e hO)]
      exact u8 _ _ e
    have v7 := Same.new (o := .lst xs) (Same.refl _) hp7
    have v6 := (Same.new (o := .lst (cutV xs (some (1 : Int)) none ++ cutV xs none (some (1 : Int)))) (Same.refl _) hp6).trans v7
    have v5 := (Same.new (o := .lst (cutV xs none (some (1 : Int)))) (Same.refl _) hp5).trans v6
    have v4 := (Same.new (o := .lst (cutV xs (some (1 : Int)) none)) (Same.refl _) hp4).trans v5
    have v3 := (Same.new (o := .lst (cutV xs none (some (-1)))) (Same.refl _) hp3).trans v4
    have v2 := (Same.new (o := .lst (cutV xs (some (1 : Int)) none)) (Same.refl _) hp2).trans v3
    have perm61 : (ds.drop 1 ++ ds.take 1).Perm ds := by
      have := List.perm_append_comm (l₁ := ds.drop 1) (l₂ := ds.take 1)
      rw [List.take_append_drop] at this
      exact this
    refine ⟨fun σ' H' => ∃ ms : List V, σ' = [some (.ref p), some (.ref l), some (.ref O), none, none, none] ∧ Same H H' ∧ H' O = some (.lst ms) ∧ ms.length ≤ 6 ∧ ∀ x ∈ ms, Mate K (hid [O] H') x, ?_, ?_⟩
    · have mates : ∀ x ∈ [V.ref p1, .ref p2, .ref p3, .ref p6, .ref p7], Mate K (hid [O] (upd (upd (upd (upd (upd (upd (upd (upd H p1 (.lst xs.reverse)) p2 (.lst (cutV xs (some (1 : Int)) none))) p3 (.lst (cutV xs none (some (-1))))) p4 (.lst (cutV xs (some (1 : Int)) none))) p5 (.lst (cutV xs none (some (1 : Int))))) p6 (.lst (cutV xs (some (1 : Int)) none ++ cutV xs none (some (1 : Int))))) p7 (.lst xs)) O (.lst [.ref p1, .ref p2, .ref p3, .ref p6, .ref p7]))) x := by
        intro x hx
        simp only [List.mem_cons, List.not_mem_nil, or_false] at hx
        rcases hx with rfl | rfl | rfl | rfl | rfl
        · exact ⟨p1, _, _, rfl, SqL.of (neO (v2 _ _ upd_same)), dpAll_rev hA8, gds.perm ds.reverse_perm⟩
        · exact ⟨p2, _, _, rfl, SqL.of (neO (v3 _ _ upd_same)), dF hA8, gds.sub (List.drop_sublist 1 ds)⟩
        · exact ⟨p3, _, _, rfl, SqL.of (neO (v4 _ _ upd_same)), dM hA8, gds.sub (List.take_sublist _ ds)⟩
        · exact ⟨p6, _, _, rfl, SqL.of (neO (v7 _ _ upd_same)), dpAll_app (dF hA8) (dT hA8), gds.perm perm61⟩
        · exact ⟨p7, _, _, rfl, SqL.of (neO upd_same), hA8, gds⟩
      refine ⟨_, rfl, l, xs, 0, _, rfl, rfl, s8.seq hl, atI_nat (j := 0) hx0, b0, _, 1, _, rfl, rfl, sqt_same s8 hb0, atI_nat (j := 1) rfl, rfl, _, rfl, ?_⟩
      refine ite2 (fun hpl => ?_) (fun hpl => ?_)
      · refine ⟨_, rfl, .inl ⟨rfl, _, SqL.of upd_same⟩, _, rfl, l, xs, 0, _, rfl, rfl, s8.seq hl, atI_nat (j := 0) hx0, b0, _, 0, _, rfl, rfl, sqt_same s8 hb0, atI_nat (j := 0) rfl, _, rfl, l, xs, 0, _, rfl, rfl, s8.seq hl, atI_nat (j := 0) hx0, b0, _, 2, _, rfl, rfl, sqt_same s8 hb0, atI_nat (j := 2) rfl, _, _, rfl, rfl, _, _, rfl, rfl, (by show (0 : Int) < 5; decide), (by show 3 ≤ sizeLine; decide), fun q1 hq1 => ⟨(by show 1 ≤ sizeLine; decide), fun q2 hq2 => ?_⟩⟩
        have r1 := Same.new (o := .tup [.str z0, .str "plain", .int ((m0 + 1) % 5)]) (Same.refl _) hq1
        have r2 := Same.new (o := .lst [.ref q1]) r1 hq2
        refine ⟨_, rfl, 1, rfl, l, xs, rfl, (s8.trans r2).seq hl, fun q3 hq3 => ?_⟩
        have r3 := Same.new (o := .lst (cutV xs (some (1 : Int)) none)) r2 hq3
        refine ⟨q2, q3, _, _, rfl, rfl, Same.new (Same.refl _) hq3 _ _ upd_same, upd_same, (by rw [sizeLine_eq]; show 1 + _ ≤ _; omega), fun q4 hq4 => ?_⟩
        have r4 := Same.new (o := .lst ([.ref q1] ++ cutV xs (some (1 : Int)) none)) r3 hq4
        have w1 := Same.new (o := .lst ([.ref q1] ++ cutV xs (some (1 : Int)) none)) (Same.new (o := .lst (cutV xs (some (1 : Int)) none)) (Same.new (o := .lst [.ref q1]) (Same.refl _) hq2) hq3) hq4
        have gh : goodM (.tuple [.str z0, .str "plain", .int ((m0 + 1) % 5)] :: ds.drop 1) := by
          have g := gds
          rw [hds] at g
          refine g.head ?_ (prt_ok (row_prt hn0 (by decide +kernel) (by decide +kernel)) (by decide)) rfl
          rw [signD_plain (n := .str z0) (show nameD (.str z0) = true from hn0) (by decide +kernel), decide_eq_true_iff]
          omega
        have e4O : q4 ≠ O := (ne_of_none (r3 _ _ upd_same) hq4).symm
        have e1O : q1 ≠ O := (ne_of_none (upd_same (a := O)) hq1).symm
        obtain ⟨sE, mE⟩ := mate_add (q4 := q4) (es := .tuple [.str z0, .str "plain", .int ((m0 + 1) % 5)] :: ds.drop 1) s8 hO0 mates r4 upd_same e4O (fun sd => .cons (.tup (SqT.of (by
          rw [hid_at (by simpa using e1O), upd_ne e1O]
          exact w1 _ _ upd_same)) (.cons (.str _) (.cons (.str _) (.cons (.int _) .nil)))) (dF (dp_sameAll sd _ _ hA))) gh
        exact ⟨O, _, _, rfl, rfl, r4 _ _ upd_same, (by rw [sizeLine_eq]; show 5 + 1 ≤ _; omega), _, rfl, sE, upd_same, (by show 6 ≤ 6; decide), mE⟩
      · exact ⟨_, rfl, s8, upd_same, (by show 5 ≤ 6; decide), mates⟩
    · rintro σ' HB ⟨ms, rfl, sB, eO, lms, mates⟩
      have gH : ∀ kn : Str, kn = "heap" ∨ kn = "row" → goodM (.tuple [.str z0, .str kn, .int 2] :: ds.drop 1) := by
        intro kn hk
        have g := gds
        rw [hds] at g
        have hk2 : ¬ PyData.eqv (.str kn) (.str "plain") = true ∧ kindsD (.str kn) = true ∧ kn.length ≤ 1000 ∧ PyData.strOk kn = true := by
          rcases hk with rfl | rfl
          · exact ⟨by decide +kernel, by decide +kernel, by decide +kernel, by decide +kernel⟩
          · exact ⟨by decide +kernel, by decide +kernel, by decide +kernel, by decide +kernel⟩
        refine g.head ?_ (prt_ok (row_prt hn0 hk2.2.2.1 hk2.2.2.2) (by decide)) rfl
        rw [signD_kind (n := .str z0) (show nameD (.str z0) = true from hn0) hk2.1, hk2.2.1]
        rfl
      refine ⟨fun σ' H' => ∃ ms : List V, σ' = [some (.ref p), some (.ref l), some (.ref O), none, none, none] ∧ Same H H' ∧ H' O = some (.lst ms) ∧ ms.length ≤ 7 ∧ ∀ x ∈ ms, Mate K (hid [O] H') x, ?_, ?_⟩
      · refine ⟨_, rfl, .inl ⟨rfl, _, SqL.of eO⟩, _, rfl, l, xs, 0, _, rfl, rfl, sB.seq hl, atI_nat (j := 0) hx0, b0, _, 0, _, rfl, rfl, sqt_same sB hb0, atI_nat (j := 0) rfl, _, rfl, l, xs, 0, _, rfl, rfl, sB.seq hl, atI_nat (j := 0) hx0, b0, _, 1, _, rfl, rfl, sqt_same sB hb0, atI_nat (j := 1) rfl, rfl, _, rfl, ?_⟩
        refine ite2 (fun hk => ?_) (fun hk => ?_)
        · refine ⟨(by show 3 ≤ sizeLine; decide), fun q1 hq1 => ⟨(by show 1 ≤ sizeLine; decide), fun q2 hq2 => ?_⟩⟩
          have r1 := Same.new (o := .tup [.str z0, .str "heap", .int 2]) (Same.refl _) hq1
          have r2 := Same.new (o := .lst [.ref q1]) r1 hq2
          refine ⟨_, rfl, 1, rfl, l, xs, rfl, (sB.trans r2).seq hl, fun q3 hq3 => ?_⟩
          have r3 := Same.new (o := .lst (cutV xs (some (1 : Int)) none)) r2 hq3
          refine ⟨q2, q3, _, _, rfl, rfl, Same.new (Same.refl _) hq3 _ _ upd_same, upd_same, (by rw [sizeLine_eq]; show 1 + _ ≤ _; omega), fun q4 hq4 => ?_⟩
          have r4 := Same.new (o := .lst ([.ref q1] ++ cutV xs (some (1 : Int)) none)) r3 hq4
          have w1 := Same.new (o := .lst ([.ref q1] ++ cutV xs (some (1 : Int)) none)) (Same.new (o := .lst (cutV xs (some (1 : Int)) none)) (Same.new (o := .lst [.ref q1]) (Same.refl _) hq2) hq3) hq4
          have gh := gH "heap" (.inl rfl)
          have e4O : q4 ≠ O := (ne_of_none (r3 _ _ eO) hq4).symm
          have e1O : q1 ≠ O := (ne_of_none eO hq1).symm
          obtain ⟨sE, mE⟩ := mate_add (q4 := q4) (es := .tuple [.str z0, .str "heap", .int 2] :: ds.drop 1) sB hO0 mates r4 upd_same e4O (fun sd => .cons (.tup (SqT.of (by
            rw [hid_at (by simpa using e1O), upd_ne e1O]
            exact w1 _ _ upd_same)) (.cons (.str _) (.cons (.str _) (.cons (.int _) .nil)))) (dF (dp_sameAll sd _ _ hA))) gh
          exact ⟨O, _, _, rfl, rfl, r4 _ _ eO, (by rw [sizeLine_eq]; omega), _, rfl, sE, upd_same, (by rw [List.length_append]; show _ + 1 ≤ 7; omega), mE⟩
        · refine ⟨(by show 3 ≤ sizeLine; decide), fun q1 hq1 => ⟨(by show 1 ≤ sizeLine; decide), fun q2 hq2 => ?_⟩⟩
          have r1 := Same.new (o := .tup [.str z0, .str "row", .int 2]) (Same.refl _) hq1
          have r2 := Same.new (o := .lst [.ref q1]) r1 hq2
          refine ⟨_, rfl, 1, rfl, l, xs, rfl, (sB.trans r2).seq hl, fun q3 hq3 => ?_⟩
          have r3 := Same.new (o := .lst (cutV xs (some (1 : Int)) none)) r2 hq3
          refine ⟨q2, q3, _, _, rfl, rfl, Same.new (Same.refl _) hq3 _ _ upd_same, upd_same, (by rw [sizeLine_eq]; show 1 + _ ≤ _; omega), fun q4 hq4 => ?_⟩
          have r4 := Same.new (o := .lst ([.ref q1] ++ cutV xs (some (1 : Int)) none)) r3 hq4
          have w1 := Same.new (o := .lst ([.ref q1] ++ cutV xs (some (1 : Int)) none)) (Same.new (o := .lst (cutV xs (some (1 : Int)) none)) (Same.new (o := .lst [.ref q1]) (Same.refl _) hq2) hq3) hq4
          have gh := gH "row" (.inr rfl)
          have e4O : q4 ≠ O := (ne_of_none (r3 _ _ eO) hq4).symm
          have e1O : q1 ≠ O := (ne_of_none eO hq1).symm
          obtain ⟨sE, mE⟩ := mate_add (q4 := q4) (es := .tuple [.str z0, .str "row", .int 2] :: ds.drop 1) sB hO0 mates r4 upd_same e4O (fun sd => .cons (.tup (SqT.of (by
            rw [hid_at (by simpa using e1O), upd_ne e1O]
            exact w1 _ _ upd_same)) (.cons (.str _) (.cons (.str _) (.cons (.int _) .nil)))) (dF (dp_sameAll sd _ _ hA))) gh
          exact ⟨O, _, _, rfl, rfl, r4 _ _ eO, (by rw [sizeLine_eq]; omega), _, rfl, sE, upd_same, (by rw [List.length_append]; show _ + 1 ≤ 7; omega), mE⟩
      · rintro σ' HC ⟨ms, rfl, sC, eO, lms, mates⟩
        have sH0 : Same H HC := sC
        refine ⟨_, rfl, O, rfl, ⟨_, SqL.of eO⟩, for_list (K := K) (a := O) (xs := ms) (fun i σ H' => ∃ v3 v4 : Option V, σ = [some (.ref p), some (.ref l), some (.ref O), v3, v4, none] ∧ Same HC H')
          ⟨none, none, rfl, Same.refl _⟩ (fun i σ H' _ ⟨_, _, _, sm⟩ => SqL.of (sm _ _ eO)) ?_ ?_⟩
        · rintro i x σ H3 hi ⟨v3, v4, rfl, s3⟩
          obtain ⟨a, zs, es, rfl, hz, hE, ge⟩ := ((mates x (List.mem_of_getElem? hi)).same hid_le).same s3
          have sH3 := sC.trans s3
          have shL := prt_shaped ge.lst (by decide)
          have shT := prt_shaped ge.tup (by decide)
          have shD := prt_shaped gds.lst (by decide)
          have shDT := prt_shaped gds.tup (by decide)
          refine ⟨_, rfl, (by show 0 ≤ sizeLine; decide), fun q hq => ⟨.list es, .list [], .lst ((Same.new (Same.refl H3) hq).seq hz) (dp_sameAll (Same.new (Same.refl H3) hq) _ _ hE), .lst (SqL.of upd_same) .nil, shL, by decide, _, rfl, ?_⟩⟩
          have s4 := Same.new (o := .lst []) (Same.refl H3) hq
          rw [eqv_nil]
          refine ite2 (fun hes => ?_) (fun hes => ?_)
          · have hne2 : es ≠ [] := by
              rintro rfl
              exact absurd hes (by decide)
            obtain ⟨sgL, sgT⟩ := ge.signs hne2
            have okL : okD (.list es) = true := prt_ok ge.lst (by decide)
            have okT : okD (.tuple es) = true := prt_ok ge.tup (by decide)
            have comm : PyData.eqv (.tuple ds) (.tuple es) = PyData.eqv (.list es) (.list ds) := by
              show PyData.eqvAll ds es = PyData.eqvAll es ds
              exact PySem.W.eqvAll_comm ds es
            have same3 : PyData.eqv (.tuple es) (.tuple ds) = PyData.eqv (.list es) (.list ds) := rfl
            have tyI : ∀ {H' : Hp} {x rt' td' : Addr} {xs' : List V} {ns' : List Str}, SgAt K C H' x rt' td' xs' ns' → TyX K H' (.ref x) (.ref C) := fun {H' x rt' td' xs' ns'} Sx => by
              obtain ⟨⟨dx', h'⟩, _⟩ := Sx
              exact .base (.ins h' G.cl GI.ha GI.hn GI.htk GI.hm)
            have nfC : PySem.W.notFirst K C (.ref C) = true := by simp [PySem.W.notFirst]
            -- ==
            refine ⟨_, rfl, _, rfl, fun x1 d1 hx1 hd1 hxd1 => ⟨x1, d1, .ref a, .list es, rfl, upd_same, .dat (.lst ((s4.trans (same_made0 hx1 hd1)).seq hz) (dp_sameAll (s4.trans (same_made0 hx1 hd1)) _ _ hE)), okL, fun _ rt1 td1 xs1 H5 S5 A5 _ keep1 => ⟨rfl, ?_⟩, fun z => absurd (sgL.symm.trans z) (by decide)⟩⟩
            have s5 := s4.trans (same_made hx1 hd1 keep1)
            have sH5 := sH3.trans s5
            obtain ⟨⟨dp5, hp5⟩, _⟩ := id (S.same sH5)
            refine ⟨p, dp5, _, _, rfl, hp5, tyI S5, nfC, p, rt, td, ys, _, .ref x1, rfl, S.same sH5, .inr ⟨x1, rt1, td1, xs1, _, ds, es, rfl, S5, dp_sameAll sH5 _ _ hY, A5, shDT, shT, _, rfl, ?_⟩⟩
            -- !=
            refine ⟨_, rfl, _, rfl, fun x2 d2 hx2 hd2 hxd2 => ⟨x2, d2, .ref a, .list es, rfl, upd_same, .dat (.lst ((s5.trans (same_made0 hx2 hd2)).seq hz) (dp_sameAll (s5.trans (same_made0 hx2 hd2)) _ _ hE)), okL, fun _ rt2 td2 xs2 H6 S6 A6 _ keep2 => ⟨rfl, ?_⟩, fun z => absurd (sgL.symm.trans z) (by decide)⟩⟩
            have s6 := s5.trans (same_made hx2 hd2 keep2)
            have sH6 := sH3.trans s6
            obtain ⟨⟨dp6, hp6⟩, _⟩ := id (S.same sH6)
            refine ⟨p, dp6, _, _, rfl, hp6, tyI S6, nfC, p, rt, td, ys, _, .ref x2, rfl, S.same sH6, .inr ⟨x2, rt2, td2, xs2, _, ds, es, rfl, S6, dp_sameAll sH6 _ _ hY, A6, shDT, shT, _, rfl, ?_⟩⟩
            -- the other way about
            refine ⟨_, rfl, a, zs, rfl, .inl ⟨s6.seq hz, fun tp htp => ?_⟩⟩
            have s7 := Same.new (o := .tup zs) s6 htp
            refine fun x3 d3 hx3 hd3 hxd3 => ⟨x3, d3, .ref tp, .tuple es, rfl, upd_same, .dat (.tup (SqT.of (same_made0 hx3 hd3 _ _ upd_same)) (dp_sameAll (s7.trans (same_made0 hx3 hd3)) _ _ hE)), okT, fun _ rt3 td3 xs3 H8 S8 A8 _ keep3 => ⟨rfl, ?_⟩, fun z => absurd (sgT.symm.trans z) (by decide)⟩
            have s8 := s7.trans (same_made hx3 hd3 keep3)
            have sH8 := sH3.trans s8
            obtain ⟨⟨dp8, hp8⟩, _⟩ := id S8
            refine ⟨_, rfl, x3, dp8, _, _, rfl, hp8, tyI (S.same sH8), nfC, x3, rt3, td3, xs3, _, .ref p, rfl, S8, .inr ⟨p, rt, td, ys, _, es, ds, rfl, S.same sH8, A8, dp_sameAll sH8 _ _ hY, shT, shDT, _, rfl, ?_⟩⟩
            refine ⟨(by show 3 ≤ sizeLine; decide), fun q1 hq1 => ?_⟩
            have hE3 : ∀ b : Bool, b = PyData.eqv (.list es) (.list ds) → PyData.bool b = PyData.bool (PyData.eqv (.list es) (.list ds)) := fun b h => by rw [h]
            have shB : Shw 200 (.list [.bool (PyData.eqv (.list es) (.list ds)), .bool (!PyData.eqv (.list es) (.list ds)), .bool (PyData.eqv (.list es) (.list ds))]) := shw_bools (bs := [PyData.eqv (.list es) (.list ds), !PyData.eqv (.list es) (.list ds), PyData.eqv (.list es) (.list ds)]) (by show 3 ≤ 10; decide)
            have layB : PyData.canLay0 (.list [.bool (PyData.eqv (.list es) (.list ds)), .bool (!PyData.eqv (.list es) (.list ds)), .bool (PyData.eqv (.list es) (.list ds))]) = true := by simp [PyData.canLay0, PyData.canLayAll0]
            have depB : PyData.depth (.list [.bool (PyData.eqv (.list es) (.list ds)), .bool (!PyData.eqv (.list es) (.list ds)), .bool (PyData.eqv (.list es) (.list ds))]) ≤ 100 := by simp [PyData.depth, PyData.depthAll]
            have dB : ∀ {H' : Hp} {q : Addr} {b1 b2 b3 : Bool}, b1 = PyData.eqv (.list es) (.list ds) → b2 = (!PyData.eqv (.list es) (.list ds)) → b3 = PyData.eqv (.list es) (.list ds) → H' q = some (.lst [.bl b1, .bl b2, .bl b3]) → Dp K H' (.ref q) (.list [.bool (PyData.eqv (.list es) (.list ds)), .bool (!PyData.eqv (.list es) (.list ds)), .bool (PyData.eqv (.list es) (.list ds))]) := by
              intro H' q b1 b2 b3 h1 h2 h3 e
              subst h1 h2 h3
              exact .lst (SqL.of e) (.cons (.bl _) (.cons (.bl _) (.cons (.bl _) .nil)))
            refine ⟨_, rfl, q1, _, rfl, .inl ⟨dB comm (by rw [comm]) same3 upd_same, layB⟩, shB.ok, depB, Nat.le_trans shB.len (by decide), ?_⟩
            have s9 := Same.new (o := .lst [.bl (PyData.eqv (.tuple ds) (.tuple es)), .bl (!PyData.eqv (.tuple ds) (.tuple es)), .bl (PyData.eqv (.tuple es) (.tuple ds))]) s8 hq1
            have zL := s9.seq hz
            have zE := dp_sameAll s9 _ _ hE
            have lD := (sH3.trans s9).seq hl
            have lA := dp_sameAll (sH3.trans s9) _ _ hA
            refine ⟨_, rfl, _, rfl, .list es, .list ds, .lst zL zE, .lst lD lA, shL, shD, ?_⟩
            refine ⟨_, rfl, _, rfl, .list es, .list ds, .lst zL zE, .lst lD lA, shL, shD, ?_⟩
            refine ⟨_, rfl, _, rfl, .list es, .list ds, .lst zL zE, .lst lD lA, shL, shD, ?_⟩
            refine ⟨(by show 3 ≤ sizeLine; decide), fun q2 hq2 => ⟨q2, _, rfl, .inl ⟨dB rfl rfl rfl upd_same, layB⟩, shB.ok, depB, Nat.le_trans shB.len (by decide), rfl, false, by simp, iteF ?_⟩⟩
            exact ⟨_, _, rfl, s3.trans (Same.new s9 hq2)⟩
          · exact ⟨_, _, rfl, s3.trans s4⟩
        · rintro σ H3 ⟨v3, v4, rfl, s3⟩
          have sH3 := sC.trans s3
          have d0 : Dm K H3 (.ref l) (.list ds) := .dat (.lst (sH3.seq hl) (dp_sameAll sH3 _ _ hA))
          refine ⟨_, rfl, _, rfl, .ref l, xs.length, rfl, .inl ⟨_, sH3.seq hl, rfl⟩, _, rfl, l, xs, 0, _, rfl, rfl, sH3.seq hl, atI_nat (j := 0) hx0, b0, _, 0, _, rfl, rfl, sqt_same sH3 hb0, atI_nat (j := 0) rfl, fun q1 hq1 => ⟨(by show 5 ≤ sizeLine; decide), fun q2 hq2 => ?_⟩⟩
          have s4 := Same.new (o := .dK []) (Same.refl H3) hq1
          have s5 := Same.new (o := .lst [.non, .ref l, .int xs.length, .str z0, .ref q1]) s4 hq2
          refine ⟨q2, rfl, ⟨_, SqL.of upd_same⟩, fun D hD => lc_list (K := K) (a := q2) (xs := [.non, .ref l, .int xs.length, .str z0, .ref q1]) (fun i H6 => Same (upd (upd H3 q1 (.dK [])) q2 (.lst [.non, .ref l, .int xs.length, .str z0, .ref q1])) H6 ∧ H6 D = some (.lst ((List.replicate i false).map V.bl)))
            ⟨Same.new (Same.refl _) hD, upd_same⟩ (fun i H6 _ ⟨z, _⟩ => SqL.of (z _ _ upd_same)) ?_ ?_⟩
          · rintro i x H6 hi ⟨s6, eD⟩
            have hil := (List.getElem?_eq_some_iff.mp hi).1
            have hil5 : i < 5 := hil
            have s36 := s5.trans s6
            have s06 := sH3.trans s36
            obtain ⟨dp6, hp6⟩ := (S.same s06).ob
            obtain ⟨dd, hdd⟩ : ∃ dd, Dm K H6 x dd := by
              have hm := List.mem_of_getElem? hi
              simp only [List.mem_cons, List.not_mem_nil, or_false] at hm
              rcases hm with rfl | rfl | rfl | rfl | rfl
              · exact ⟨.none, .dat .non⟩
              · exact ⟨_, d0.same s36⟩
              · exact ⟨_, .dat (.int _)⟩
              · exact ⟨_, .dat (.str _)⟩
              · exact ⟨_, .dic (s6 _ _ (Same.new (Same.refl _) hq2 _ _ upd_same))⟩
            refine ⟨rfl, ⟨_, rfl, _, rfl, p, dp6, _, _, rfl, hp6, tyx_of hdd, nF dd, p, rt, td, ys, _, x, rfl, S.same s06, .inl ⟨dd, hdd, false, rfl, _, eD, ?_, ?_, ?_⟩⟩⟩
            · rw [List.length_map, List.length_replicate, sizeLine_eq]
              omega
            · exact fun c o e => by
                rw [upd_ne (ne_of_none e hD)]
                exact s6 c o e
            · rw [upd_same, List.replicate_succ', List.map_append]
              rfl
          · rintro H6 ⟨s6, eD⟩
            have s36 := s5.trans s6
            have shB : Shw 200 (.list [.bool false, .bool false, .bool false, .bool false, .bool false]) := shw_bools (bs := [false, false, false, false, false]) (by decide)
            have eD5 : H6 D = some (.lst [.bl false, .bl false, .bl false, .bl false, .bl false]) := eD
            refine ⟨_, rfl, D, _, rfl, .inl ⟨.lst (SqL.of eD5) (.cons (.bl _) (.cons (.bl _) (.cons (.bl _) (.cons (.bl _) (.cons (.bl _) .nil))))), by decide⟩, shB.ok, by decide, Nat.le_trans shB.len (by decide), ?_⟩
            refine ⟨(by show 1 ≤ sizeLine; decide), fun q3 hq3 => ⟨q3, 5, _, rfl, rfl, upd_same, by decide, by decide, (by show 1 * 5 ≤ sizeLine; decide), fun q4 hq4 => ?_⟩⟩
            have s7 := Same.new (o := .lst [.bl false]) s36 hq3
            have s8 := Same.new (o := .lst (List.replicate (5 : Int).toNat [V.bl false]).flatten) s7 hq4
            refine ⟨q4, .list [.bool false, .bool false, .bool false, .bool false, .bool false], rfl, .inl ⟨.lst (SqL.of upd_same) (.cons (.bl _) (.cons (.bl _) (.cons (.bl _) (.cons (.bl _) (.cons (.bl _) .nil))))), by decide⟩, shB.ok, by decide, Nat.le_trans shB.len (by decide), rfl, ?_⟩
            rw [decide_eq_true rfl]
            exact k _ (sH3.trans s8)
end
end K1
set_option Elab.async false
set_option linter.all false
set_option maxRecDepth 100000
set_option maxHeartbeats 4000000
namespace K1
open PySem PySem.Spec PyProof.Rows L2
/-- the tuples stand -/
def TupK (H H' : Hp) : Prop := ∀ b o, H b = some o → ((∃ xs, o = .tup xs) ∨ ∃ ob xs, o = .frz ob (.tup xs)) → H' b = some o
theorem TupK.sqt {K : PySem.W.Frag} {H H' : Hp} {a : Addr} {xs : List V} (s : TupK H H') (h : SqT K H a xs) : SqT K H' a xs := by
  rcases h with (h | ⟨o, h⟩) | h
  · exact .inl (.inl (s _ _ h (.inl ⟨_, rfl⟩)))
  · exact .inl (.inr ⟨o, s _ _ h (.inr ⟨_, _, rfl⟩)⟩)
  · exact .inr h
/-- rows of signs are flat tuples: they stand where the tuples stand -/
theorem rows_tk {K : PySem.W.Frag} {H H' : Hp} (s : TupK H H') : ∀ {ys : List V} {es : List PyData}, DpAll K H ys es → (∀ e ∈ es, signD e = true) → DpAll K H' ys es
  | _, _, .nil, _ => .nil
  | _, _, .cons (d := e) h t, hs => by
    refine .cons ?_ (rows_tk s t fun e he => hs e (List.mem_cons_of_mem _ he))
    obtain ⟨z, y, m, rfl, _⟩ := sign_full (hs e List.mem_cons_self)
    obtain ⟨b, vk, vm, rfl, hb, hk, hm⟩ := row_of h
    cases hk
    cases hm
    exact .tup (s.sqt hb) (.cons (.str _) (.cons (.str _) (.cons (.int _) .nil)))
theorem signs_parts {dd : PyData} (h : signsD dd = true) : listD dd = true ∧ itemsD dd ≠ [] ∧ (itemsD dd).length ≤ 24 ∧ (∀ e ∈ itemsD dd, signD e = true) ∧ ((itemsD dd).map nameOf).Nodup := by
  unfold signsD at h
  rw [Bool.and_eq_true, Bool.and_eq_true, decide_eq_true_iff, go_eq, Bool.and_eq_true, List.all_eq_true, decide_eq_true_iff] at h
  obtain ⟨h1, ⟨h2, h3⟩, h4, h5⟩ := h
  exact ⟨h1, fun e => by rw [e] at h2; simp at h2, h3, h4, h5⟩
theorem good_of {dd : PyData} (ho : okD dd = true) (h : signsD dd = true) : goodM (itemsD dd) := by
  obtain ⟨h1, h2, h3, h4, h5⟩ := signs_parts h
  obtain ⟨_, hk⟩ := items_ok ho h1
  refine ⟨fun e he => ⟨h4 e he, ?_⟩, h5, h3⟩
  obtain ⟨i, hi⟩ := List.getElem?_of_mem he
  exact (hk i e hi).1
theorem tabs_nil {T : List (Addr × Str)} {cs : List (Addr × Addr)} {H : Hp} (hT : ∀ p ∈ T, ∃ q ∈ cs, p.1 = q.2) (h : ∀ q ∈ cs, H q.2 = some (.tbl #[])) : LamX.Tabs T H := fun p hp => by
  obtain ⟨q, hq, e⟩ := hT p hp
  rw [e]
  exact LamX.TabS.nil (h q hq)
theorem tabs_off {T : List (Addr × Str)} {H : Hp} {l : Addr} {zs : List V} {o : HO} (e : H l = some (.lst zs)) (h : LamX.Tabs T H) : LamX.Tabs T (upd H l o) := fun p hp => by
  obtain ⟨ps, h1, h2, h3⟩ := h p hp
  have off : ∀ {b : Addr} {u : HO}, H b = some u → (∀ xs, u ≠ .lst xs) → upd H l o b = some u := fun {b u} q n => by
    rw [upd_ne (fun z => by rw [z, e] at q; exact n _ (Option.some.inj q).symm)]
    exact q
  refine ⟨ps, off h1 (by intro _ z; cases z), h2, fun pos cv hc => ?_⟩
  obtain ⟨cc, rfl, q⟩ := h3 pos cv hc
  exact ⟨cc, rfl, off q (by intro _ z; cases z)⟩
theorem Gen.ext {d g c : Addr} {t : Nat} {H H' : Hp} (G : Gen d g c t H) (s : LamX.ExtN H H') : Gen d g c t H' := by
  obtain ⟨n, gs, cs, r, u, e1, e2, e3, e4⟩ := G
  exact ⟨n, gs, cs, r, u, s _ _ e1 (by intro _ z; cases z), s _ _ e2 (by intro _ z; cases z), s _ _ e3 (by intro _ z; cases z), e4⟩
theorem Dm.ext {K : PySem.W.Frag} {H H' : Hp} {v : V} {d : PyData} (s : LamX.ExtN H H') (h : Dm K H v d) : Dm K H' v d := by
  cases h with
  | dat h => exact .dat (dp_ext s _ _ h)
  | dic h => exact .dic (s _ _ h (by intro _ z; cases z))
theorem hid_ext {ls : List Addr} {H H' : Hp} (s : LamX.ExtN H H') : LamX.ExtN (hid ls H) (hid ls H') := fun b o e n => by
  unfold hid at e ⊢
  by_cases hb : b ∈ ls
  · rw [if_pos hb] at e
    cases e
  · rw [if_neg hb] at e ⊢
    exact s b o e n
end K1
set_option Elab.async false
set_option linter.all false
set_option maxRecDepth 100000
set_option maxHeartbeats 4000000
namespace K1
open PySem PySem.Spec PyProof.Rows L2
abbrev sLaw : Stmt := topS 36
abbrev nLaw : List Str := ["_law_script", "_law_state", "_law_turn", "_law_spoils", "_law_lines", "_law_k", "_law_good", "_law_stock", "_law_handed"]
theorem scLaw : FnScope nLaw ["_law_script"] (defScope sLaw) := ⟨rfl, rfl, rfl, by decide +kernel, rfl, by decide +kernel, by decide +kernel⟩
def qLaw : Str := Str.ofString "law.<locals>.<lambda>"
def spLaw (K : PySem.W.Frag) (T : List (Addr × Str)) : Sp := fun vs H Q _ => ∃ (a : Addr) (ns : List Int), vs = [.ref a] ∧ SqL K H a (ns.map V.int) ∧ ns.length ≤ 63 ∧ LamX.Tabs T H ∧ ∀ H', Q (.bl true) H'
section
variable {P : Program} {w : World} {K : PySem.W.Frag} {mg : Str → Option Value} {base : Heap}
theorem ok_law {f C CN CS CT c1 c2 c3 c4 c5 c6 fR fI cc PL : Addr} {fd fdR fdI : FuncData} {T : List (Addr × Str)} (F : FunC K "law" sLaw f fd cc) (FR : Fun K "_law_refused" "_law_refused" sRef fR fdR) (bR : Binds K fdR ["_law_work"] []) (gR : mg "_law_refused" = some (.ref fR))
    (R : RfC K mg CN CS CT c1 c2 c3 c4 c5 c6) (B : Cs mg) (G : SgC K C) (gC : mg "Signs" = some (.ref C))
    (DB : Df P w K mg base CX0 "_law_begun" 1 ["_law_script"] (spBegun K)) (DT : Df P w K mg base CX0 "_law_take" 2 ["_law_state", "_law_size"] spTake) (DS : Df P w K mg base CX0 "_law_some_rows" 4 ["_law_state"] (spSome K))
    (DR : Df P w K mg base CX0 "_law_are_rows" 4 ["_law_lines"] (spRowsOk K)) (DP : Df P w K mg base CX0 "_law_spoilt" 4 ["_law_state", "_law_lines"] (spSpoilt K)) (DA : Df P w K mg base CX0 "_law_are_signs" 5 ["_law_matter"] (spP K signsD))
    (DTo : Dg P w K mg base "_law_told_right" 9 ["_law_state", "_law_stock", "_law_lines"] (spTold K C T)) (DAl : Dg P w K mg base "_law_alike_right" 9 ["_law_stock", "_law_lines"] (spAlike K C))
    (M : Mk K C fI) (FI : FnOk P w K mg base (L2.CX P w) 5 fI fdI ["self", "rows"] (spInit K C CN)) (bI : Binds K fdI ["self", "rows"] []) (kI : KBn K fdI ["self", "rows"] 1 ["rows"] (fun us ws => us ++ ws) (fun vs zs => vs ++ zs))
    (mR : Mt P w K mg base CX0 C "rows" 1 ["self"] (spRows K C))
    (TB : LamX.TabB base mg cc PL) (hT : (PL, qLaw) ∈ T) (hTu : ∀ p ∈ T, p.1 = PL → p.2 = qLaw) : FnG P w K mg base 12 f fd ["_law_script"] (spLaw K T) := by
  obtain ⟨fr, fdr, FRo, meR, biR⟩ := mR.ex
  obtain ⟨oc, od, kV, doc, pm, an, cdv, ct, osl, rfl, lkR, hcR⟩ := FR.ex
  refine F.okG scLaw (fun vs H Q E h => ?_) (fun A outer s H vs Q E hg hr h => ?_)
  · obtain ⟨a, ns, rfl, _⟩ := h
    rfl
  · obtain ⟨a, ns, rfl, hS, hns, hTab, k⟩ := h
    refine ⟨_, pss_cons (ps_set (i := 1) scLaw.nd rfl (Or.inl rfl) (pe_df DB hr pass0 (pa_cons (pv 0) pa_nil)))
      (pss_cons (ps_for PassesOwn.never rfl (pi_range1 rfl B.range (pa_cons pe_int pa_nil)) (pg_name (i := 2) scLaw.nd rfl (Or.inl rfl))
        (pss_cons (ps_set (i := 3) scLaw.nd rfl (Or.inl rfl) (pe_df DT hr pass0 (pa_cons (pv 1) (pa_cons pe_int pa_nil))))
        (pss_cons (ps_set (i := 4) scLaw.nd rfl (Or.inl rfl) (pe_df DS hr pass0 (pa_cons (pv 1) pa_nil)))
        (pss_cons (ps_for PassesOwn.never rfl (pi_range1 rfl B.range (pa_cons (pv 3) pa_nil)) (pg_name (i := 5) scLaw.nd rfl (Or.inl rfl))
          (pss_one (ps_if (PW.pt (pw_and (pt_val (pe_callB call_isi (by rfl) B.isi boot_isinstance (pa_cons (pv 4) (pa_cons (pe_bltn (v := .ty "list") (by rfl) B.list boot_list rfl) pa_nil)))) (pw_and (pt_cmpR (op_neD hr.units) (pv 4) (pe_lst pa_nil) (nomark _)) (pw_and1 (pt_val (pe_df DR hr pass0 (pa_cons (pv 4) pa_nil)))))))
            (pss_one (ps_set (i := 4) scLaw.nd rfl (Or.inl rfl) (pe_df DP hr pass0 (pa_cons (pv 1) (pa_cons (pv 4) pa_nil))))) pss_nil)))
        (pss_cons (ps_set (i := 6) scLaw.nd rfl (Or.inl rfl) (pe_df DA hr pass0 (pa_cons (pv 4) pa_nil)))
        (C8.pss_cut (ps_set (i := 8) scLaw.nd rfl (Or.inr rfl) (pe_ifExp (PW.pt (pw_and (pt_val (pe_callB call_isi (by rfl) B.isi boot_isinstance (pa_cons (pv 4) (pa_cons (pe_bltn (v := .ty "list") (by rfl) B.list boot_list rfl) pa_nil)))) (pw_and1 (pt_cmpR op_eq (pe_df DT hr pass0 (pa_cons (pv 1) (pa_cons pe_int pa_nil))) pe_int (nomark _)))))
            (pe_callTy call_tuple_of (by rfl) B.tuple boot_tuple (pa_cons (pv 4) pa_nil)) (pv 4)))
        (C8.pss_cut (ps_if (pt_cmpR (op_neD hr.units) (LamX.pe_lamcall (k := 8) (by rfl) gR FR.kp lkR hcR bR scRef rfl (Or.inl rfl) (refused_gives R B) TB rfl hT hTu (hr.mono (by decide)) (show LamX.LamS (defScope sLaw) _ from LamX.lamS_by (by decide +kernel)) rfl (fun _ _ _ _ _ => rfl)
              (fun A' outer' s' H' E' f' c' hr' => pe_make M FI (hr'.mono (by decide)) (by rfl) gC bI .nil (passes_call (takes_of rfl rfl rfl rfl) (fun _ _ _ _ h => h)) (pa_cons (pv 8) pa_nil)))
            (pe_tup (pa_cons (pe_ifExp (pt_val (pv 6)) pe_str pe_str) (pa_cons pe_non pa_nil))) (nomark _)) (pss_one (ps_ret pe_bl)) pss_nil)
        (pss_one (ps_if (pt_val (pv 6))
          (pss_cons (ps_set (i := 4) scLaw.nd rfl (Or.inl rfl) (pe_callTy call_list_of (by rfl) B.list boot_list (pa_cons (pv 4) pa_nil)))
          (pss_cons (ps_set (i := 8) scLaw.nd rfl (Or.inr rfl) (pe_callTy call_list_of (by rfl) B.list boot_list (pa_cons (pv 4) pa_nil)))
          (pss_cons (ps_set (i := 7) scLaw.nd rfl (Or.inl rfl) (pe_makeK0 M FI (hr.mono (by decide)) (by rfl) gC kI passX (pk_cons (pv 8) pk_nil)))
          (pss_cons (ps_expr (pe_bm0 PySem.F.plainAttrs_list PySem.F.slot_list_clear PySem.F.type_list_clear mt_clear (pv 8)))
          (pss_cons (ps_expr (pe_bm PySem.F.plainAttrs_list PySem.F.slot_list_append PySem.F.type_list_append mt_append (pe_meth0 (pv 7) G.cl meR FRo (hr.mono (by decide)) biR .nil pass0) (pa_cons pe_non pa_nil)))
          (pss_one (ps_if (PW.pt (pw_or (pt_not (pt_val (pe_dg DTo hg hr (pa_cons (pv 1) (pa_cons (pv 7) (pa_cons (pv 4) pa_nil)))))) (pw_or1 (pt_not (pt_val (pe_dg DAl hg hr (pa_cons (pv 7) (pa_cons (pv 4) pa_nil)))))))) (pss_one (ps_ret pe_bl)) pss_nil))))))) pss_nil)))))))))
      (pss_one (ps_ret pe_bl))), ?_⟩
    refine ⟨_, rfl, a, ns, rfl, hS, hns, fun d g c H1 G1 s1 _ _ => ?_⟩
    refine ⟨3, rfl, by decide, by decide, for_range (lo := 0) (n := 3) (fun i σ H' => ∃ v2 v3 v4 v5 v6 v7 v8 : Option V, σ = [some (.ref a), some (.ref d), v2, v3, v4, v5, v6, v7, v8] ∧ Gen d g c (1000 * i) H' ∧ LamX.Tabs T H')
      ⟨none, none, none, none, none, none, none, rfl, G1, hTab.ext s1⟩ ?_ ?_⟩
    · rintro i σ H2 hi ⟨v2, v3, v4, v5, v6, v7, v8, rfl, G2, T2⟩
      refine ⟨_, rfl, d, g, c, _, 3, rfl, G2, by omega, by decide, by decide, fun sp H3 p0 p1 G3 k3 => ?_⟩
      have T3 := tabs_kp G2 k3 T2
      obtain ⟨m, rfl⟩ := Int.eq_ofNat_of_zero_le p0
      refine ⟨_, rfl, d, g, c, _, rfl, G3, by omega, fun l xs ds H4 eL hL hD hP hl4 G4 k4 => ?_⟩
      have T4 := tabs_kp G3 k4 T3
      have nl := G3.nd hL
      refine ⟨_, rfl, m, rfl, by omega, by omega, for_range (lo := 0) (n := m) (fun j σ H' => ∃ (w5 : Option V) (v : V) (dd : PyData), σ = [some (.ref a), some (.ref d), some (.int (0 + i)), some (.int m), some v, w5, v6, v7, v8] ∧ Dm K (hid [d, g] H') v dd ∧ okD dd = true ∧ (∀ es, dd = .list es → es.length ≤ 25 + j) ∧ Gen d g c (1000 * i + 500 + 60 * j) H' ∧ LamX.Tabs T H')
        ⟨v5, .ref l, .list ds, rfl, .dat (.lst (SqL.of (hid_get nl.1 nl.2 eL)) (dp_sameAll (hid_sub (fun x hx => by simp only [List.mem_cons, List.not_mem_nil, or_false] at hx ⊢; rcases hx with h | h; exact .inl h; exact .inr (.inl h))) _ _ hD)), ok_parts hP (by omega), (fun es z => by cases z; omega), G4.mono (by omega), T4⟩ ?_ ?_⟩
      · rintro j σ H5 hj ⟨w5, v, dd, rfl, hm, hok, hln, G5, T5⟩
        have hm5 := hm.same hid_le
        refine ⟨_, rfl, _, _, _, _, _, rfl, .ty "list", tyx_of hm5, kit_lst dd, _, rfl, ?_⟩
        refine ite2 (fun hlst => ?_) (fun hlst => ?_)
        · cases dd with
          | list es =>
            cases hm with
            | dat hm =>
              cases hm with
              | lst hq hqa =>
                rename_i l5 xs5
                have hq5 : SqL K H5 l5 xs5 := hid_le.seq hq
                have hqa5 := dp_sameAll hid_le _ _ hqa
                have hsh : SeqAt.shaped (.list es) = true := (ok_lst hok).2.2
                refine ⟨_, rfl, (by show 0 ≤ sizeLine; decide), fun q hq0 => ⟨.list es, .list [], .lst ((Same.new (Same.refl H5) hq0).seq hq5) (dp_sameAll (Same.new (Same.refl H5) hq0) _ _ hqa5), .lst (SqL.of upd_same) .nil, hsh, by decide, _, rfl, ?_⟩⟩
                have s6 := Same.new (o := .lst []) (Same.refl H5) hq0
                rw [eqv_nil]
                refine ite2 (fun hes => ?_) (fun hes => ?_)
                · have hne : es ≠ [] := by
                    rintro rfl
                    exact absurd hes (by decide)
                  refine ⟨_, rfl, _, .list es, rfl, .dat (.lst (s6.seq hq5) (dp_sameAll s6 _ _ hqa5)), hok, rfl, fun H7 s7 => ⟨_, rfl, ?_⟩⟩
                  have s57 := s6.trans s7
                  have h57 := hid_same (ls := [d, g]) s57
                  refine ite2 (fun hrow => ?_) (fun hrow => ?_)
                  · have hle := hln es rfl
                    refine ⟨_, rfl, _, rfl, d, g, c, l5, _, xs5, es, rfl, G5.same s57, by omega, h57.seq hq, dp_sameAll h57 _ _ hqa, hok, hrow, hne, by omega, fun v8' e8 H8 hm8 ok8 ln8 G8 k8 => ?_⟩
                    exact ⟨_, v8', e8, rfl, hm8, ok8, (fun es' z => by have := ln8 es' z; omega), G8.mono (by omega), tabs_kp (G5.same s57) k8 (T5.ext s57)⟩
                  · exact ⟨_, _, .list es, rfl, .dat (.lst (h57.seq hq) (dp_sameAll h57 _ _ hqa)), hok, (fun es' z => by have := hln es' z; omega), (G5.same s57).mono (by omega), T5.ext s57⟩
                · exact iteF ⟨_, _, .list es, rfl, .dat (.lst ((hid_same (ls := [d, g]) s6).seq hq) (dp_sameAll (hid_same (ls := [d, g]) s6) _ _ hqa)), hok, (fun es' z => by have := hln es' z; omega), (G5.same s6).mono (by omega), T5.ext s6⟩
          | _ => cases hlst
        · exact iteF ⟨_, v, dd, rfl, hm, hok, (fun es' z => by have := hln es' z; omega), G5.mono (by omega), T5⟩
      · rintro σ H5 ⟨w5, v, dd, rfl, hm, hok, hln, G5, T5⟩
        refine ⟨_, rfl, v, dd, rfl, hm.same hid_le, hok, fun H6 s6 => ?_⟩
        have hm6 := hm.same (hid_same (ls := [d, g]) s6)
        have G6 := G5.same s6
        have T6 := T5.ext s6
        refine ⟨fun σ' H' => ∃ (v' : V) (d' : PyData), σ' = [some (.ref a), some (.ref d), some (.int (0 + i)), some (.int m), some v, w5, some (.bl (signsD dd)), v7, some v'] ∧ Dm K (hid [d, g] H') v' d' ∧ okD d' = true ∧ signsD d' = signsD dd ∧ Dm K (hid [d, g] H') v dd ∧ Gen d g c (1000 * i + 700) H' ∧ LamX.Tabs T H', ?_, ?_⟩
        · have hm6' := hm6.same hid_le
          refine ⟨_, rfl, _, _, _, _, _, rfl, .ty "list", tyx_of hm6', kit_lst dd, _, rfl, ?_⟩
          refine ite2 (fun hlst => ?_) (fun hlst => ?_)
          · refine ⟨_, rfl, d, g, c, _, 2, rfl, G6, by omega, by decide, by decide, fun u H7 u0 u1 G7 k7 => ⟨rfl, _, rfl, ?_⟩⟩
            have q67 := hid_kp2 k7
            have hm7 := hm6.same q67
            have T7 := tabs_kp G6 k7 T6
            refine ite2 (fun hu => ?_) (fun hu => ?_)
            · cases dd with
              | list es =>
                cases hm7 with
                | dat hm7 =>
                  cases hm7 with
                  | lst hq hqa =>
                    rename_i l7 xs7
                    refine ⟨_, rfl, l7, xs7, rfl, .inl ⟨hid_le.seq hq, fun tp htp => ?_⟩⟩
                    have s8 := Same.new (o := .tup xs7) (Same.refl H7) htp
                    have h8 := hid_same (ls := [d, g]) s8
                    have nt := G7.nd htp
                    have okl := ok_lst hok
                    refine ⟨.ref tp, .tuple es, rfl, .dat (.tup (SqT.of (hid_get nt.1 nt.2 upd_same)) (dp_sameAll h8 _ _ hqa)), ?_, rfl, .dat (.lst (h8.seq hq) (dp_sameAll h8 _ _ hqa)), (G7.same s8).mono (by omega), T7.ext s8⟩
                    have hlay : PyData.canLayAll0 es = true := by simpa [PyData.canLay0] using SeqAt.canLay_of_shaped okl.2.2
                    have hdep := SeqAt.depth_of_shaped okl.2.2
                    refine ok_of (by simpa [PyData.canLay0] using hlay) ?_ (by simpa [PyData.depth] using hdep)
                    show (decide (es.length ≤ 1000) && fineAll es) = true
                    rw [decide_eq_true okl.1, okl.2.1]
                    rfl
              | _ => cases hlst
            · exact ⟨_, rfl, v, dd, rfl, hm7, hok, rfl, hm7, G7.mono (by omega), T7⟩
          · exact iteF ⟨_, rfl, v, dd, rfl, hm6, hok, rfl, hm6, G6.mono (by omega), T6⟩
        · rintro σ' H7 ⟨v', d', rfl, hv', ok', sg', hm7, G7, T7⟩
          refine ⟨fun σ' H' => σ' = [some (.ref a), some (.ref d), some (.int (0 + i)), some (.int m), some v, w5, some (.bl (signsD dd)), v7, some v'] ∧ Dm K (hid [d, g] H') v dd ∧ Gen d g c (1000 * i + 700) H' ∧ LamX.Tabs T H', ?_, ?_⟩
          · have fin : ∀ {HZ : Hp}, LamX.ExtN H7 HZ → LamX.Tabs T HZ → [some (V.ref a), some (.ref d), some (.int (0 + i)), some (.int m), some v, w5, some (.bl (signsD dd)), v7, some v'] = [some (.ref a), some (.ref d), some (.int (0 + i)), some (.int m), some v, w5, some (.bl (signsD dd)), v7, some v'] ∧ Dm K (hid [d, g] HZ) v dd ∧ Gen d g c (1000 * i + 700) HZ ∧ LamX.Tabs T HZ := fun e t => ⟨rfl, hm7.ext (hid_ext e), G7.ext e, t⟩
            refine ⟨T7, fun H8 e8 T8 => ?_⟩
            have dv8 := (hv'.same hid_le).ext e8
            refine ⟨_, rfl, fun x dx hx hdx hxd => ?_⟩
            have s9 := same_made0 (C := C) hx hdx
            refine ⟨x, dx, v', d', rfl, upd_same, dv8.same s9, ok', fun hgood rt td ys H9 S9 A9 _ keep => ⟨rfl, fun p1 H10 s10 hp1 e1 => ?_⟩, fun hbad H9 s9' => .inl ⟨rfl, rfl, fun p1 H10 s10 hp1 e1 => ?_⟩⟩
            · have s8a := (same_made hx hdx keep).trans s10
              have hg' : signsD dd = true := by rw [← sg']; exact hgood
              refine ⟨_, rfl, _, rfl, ?_⟩
              rw [hg']
              refine iteT ⟨(by show 2 ≤ sizeLine; decide), fun p2 hp2 => ?_⟩
              have s11 := Same.new (o := .tup [.str "", .non]) (Same.refl H10) hp2
              refine ⟨.tuple [.str "", .none], .tuple [.str "", .none], .tup (SqT.of (s11 _ _ e1)) (.cons (.str _) (.cons .non .nil)), .tup (SqT.of upd_same) (.cons (.str _) (.cons .non .nil)), by decide +kernel, by decide +kernel, false, by decide +kernel, iteF ?_⟩
              rw [← hg']
              exact fin (e8.trans (LamX.ExtN.of (s8a.trans s11))) (T8.ext (s8a.trans s11))
            · have s8a := (s9.trans s9').trans s10
              have hg' : signsD dd = false := by rw [← sg']; exact hbad
              refine ⟨_, rfl, _, rfl, ?_⟩
              rw [hg']
              refine iteF ⟨(by show 2 ≤ sizeLine; decide), fun p2 hp2 => ?_⟩
              have s11 := Same.new (o := .tup [.str "signs", .non]) (Same.refl H10) hp2
              refine ⟨.tuple [.str "signs", .none], .tuple [.str "signs", .none], .tup (SqT.of (s11 _ _ e1)) (.cons (.str _) (.cons .non .nil)), .tup (SqT.of upd_same) (.cons (.str _) (.cons .non .nil)), by decide +kernel, by decide +kernel, false, by decide +kernel, iteF ?_⟩
              rw [← hg']
              exact fin (e8.trans (LamX.ExtN.of (s8a.trans s11))) (T8.ext (s8a.trans s11))
          · rintro σ' H8 ⟨rfl, hm8, G8, T8⟩
            refine ⟨_, rfl, _, rfl, ?_⟩
            refine ite2 (fun hgd => ?_) (fun hgd => ?_)
            · obtain ⟨lD, iNe, iLen, iSg, iNd⟩ := signs_parts hgd
              have gM := good_of hok hgd
              have iAll : (itemsD dd).all signD = true := by
                rw [List.all_eq_true]
                exact iSg
              have okL : okD (.list (itemsD dd)) = true := prt_ok gM.lst (by decide)
              obtain ⟨sgL, _⟩ := gM.signs iNe
              obtain ⟨a8, xs8, rfl, hS8, hA8⟩ := seq_of hm8 lD
              have hlx := dpAll_len hA8
              refine ⟨_, rfl, a8, xs8, rfl, hS8.elim (fun z => .inl (hid_le.seq z)) (fun z => .inr (sqt_same hid_le z)), fun l1 hl1 => ?_⟩
              have s1 := Same.new (o := .lst xs8) (Same.refl H8) hl1
              refine ⟨_, rfl, l1, xs8, rfl, .inl (SqL.of upd_same), fun l2 hl2 => ?_⟩
              have s2 := Same.new (o := .lst xs8) s1 hl2
              have G9 := G8.same s1
              have A9 : DpAll K (upd (upd H8 l1 (.lst xs8)) l2 (.lst xs8)) xs8 (itemsD dd) := dp_sameAll s2 _ _ (dp_sameAll hid_le _ _ hA8)
              refine ⟨_, rfl, rfl, rfl, fun x dx hx hdx hxd => ?_⟩
              have s0 := same_made0 (C := C) hx hdx
              refine ⟨x, dx, .ref l2, .list (itemsD dd), rfl, upd_same, .dat (.lst (SqL.of (s0 _ _ upd_same)) (dp_sameAll s0 _ _ A9)), okL, fun _ rt td ys HA SA AA htd keep => ⟨rfl, ?_⟩, fun z => absurd (sgL.symm.trans z) (by decide)⟩
              have s3 := same_made hx hdx keep
              have sA := s2.trans s3
              have e2 : HA l2 = some (.lst xs8) := s3 _ _ upd_same
              have e1 : HA l1 = some (.lst xs8) := s3 _ _ (Same.new (Same.refl _) hl2 _ _ upd_same)
              have GA := G8.same sA
              have n1 := G8.nd hl1
              have n2 := G9.nd hl2
              have n12 : l1 ≠ l2 := ne_of_none (upd_same (H := H8)) hl2
              have ntd : td ≠ d := by
                obtain ⟨_, _, _, _, _, q1, _⟩ := id (G8.same s2)
                exact (ne_of_none (s0 _ _ q1) htd).symm
              refine ⟨_, rfl, .inl ⟨rfl, _, SqL.of e2⟩, l2, xs8, rfl, rfl, e2, ?_⟩
              have kB : ∀ {b : Addr} {o : HO}, b ≠ l2 → HA b = some o → upd HA l2 (.lst []) b = some o := fun n e => by
                rw [upd_ne n]
                exact e
              have tB : TupK HA (upd HA l2 (.lst [])) := fun b o e ht => kB (fun z => by rw [z, e2] at e; cases e; rcases ht with ⟨_, z⟩ | ⟨_, _, z⟩ <;> cases z) e
              obtain ⟨⟨dxA, hxA⟩, hrtA, htdA, hlenA, hndA⟩ := id SA
              have nx2 : x ≠ l2 := ne_of hxA e2 (by intro z; cases z)
              have nt2 : td ≠ l2 := ne_of htdA e2 (by intro z; cases z)
              have SB : SgAt K C (upd HA l2 (.lst [])) x rt td ys ((itemsD dd).map nameOf) := ⟨⟨dxA, kB nx2 hxA⟩, tB.sqt hrtA, kB nt2 htdA, hlenA, hndA⟩
              refine ⟨_, rfl, x, dxA, _, rfl, kB nx2 hxA, sgF_no rt td (by decide +kernel) (by decide +kernel), x, rt, td, ys, _, rfl, SB, fun l3 hl3 => ⟨.inl ⟨rfl, _, SqL.of upd_same⟩, l3, ys, .non, rfl, rfl, upd_same, ?_, ?_⟩⟩
              · have := dpAll_len AA
                have hle : ys.length ≤ 24 := by rw [this]; exact iLen
                rw [sizeLine_eq]
                omega
              have kC : ∀ {b : Addr} {o : HO}, upd HA l2 (.lst []) b = some o → upd (upd (upd HA l2 (.lst [])) l3 (.lst ys)) l3 (.lst (ys ++ [.non])) b = some o := fun {b o} e => by
                have n := ne_of_none e hl3
                rw [upd_ne n, upd_ne n]
                exact e
              have GB : Gen d g c (1000 * i + 700) (upd HA l2 (.lst [])) := GA.off n2.1 n2.2 (G9.nc hl2)
              have n3 := GB.nd hl3
              have GC : Gen d g c (1000 * i + 700) (upd (upd (upd HA l2 (.lst [])) l3 (.lst ys)) l3 (.lst (ys ++ [.non]))) := GB.same fun b o e => kC e
              have TC : LamX.Tabs T (upd (upd (upd HA l2 (.lst [])) l3 (.lst ys)) l3 (.lst (ys ++ [.non]))) := (tabs_off e2 (T8.ext sA)).ext fun b o e => kC e
              obtain ⟨_, gs0, cs0, r0, u0, gq1, gq2, _, _⟩ := id GA
              have hC : ∀ {b : Addr} {o : HO}, b ≠ l2 → b ≠ d → b ≠ g → HA b = some o → hid [d, g] (upd (upd (upd HA l2 (.lst [])) l3 (.lst ys)) l3 (.lst (ys ++ [.non]))) b = some o := fun q1 q2 q3 e => hid_get q2 q3 (kC (kB q1 e))
              have tC : TupK HA (hid [d, g] (upd (upd (upd HA l2 (.lst [])) l3 (.lst ys)) l3 (.lst (ys ++ [.non])))) := fun b o e ht => by
                refine hC (fun z => ?_) (fun z => ?_) (fun z => ?_) e
                · rw [z, e2] at e
                  cases e
                  rcases ht with ⟨_, z⟩ | ⟨_, _, z⟩ <;> cases z
                · rw [z, gq1] at e
                  cases e
                  rcases ht with ⟨_, z⟩ | ⟨_, _, z⟩ <;> cases z
                · rw [z, gq2] at e
                  cases e
                  rcases ht with ⟨_, z⟩ | ⟨_, _, z⟩ <;> cases z
              have SC : SgAt K C (hid [d, g] (upd (upd (upd HA l2 (.lst [])) l3 (.lst ys)) l3 (.lst (ys ++ [.non])))) x rt td ys ((itemsD dd).map nameOf) :=
                ⟨⟨dxA, hC nx2 (ne_of hxA gq1 (by intro z; cases z)) (ne_of hxA gq2 (by intro z; cases z)) hxA⟩, tC.sqt hrtA, hC nt2 ntd (ne_of htdA gq2 (by intro z; cases z)) htdA, hlenA, hndA⟩
              have YC := rows_tk tC AA iSg
              have XC' := rows_tk tC (dp_sameAll s3 _ _ A9) iSg
              have LC : SqL K (hid [d, g] (upd (upd (upd HA l2 (.lst [])) l3 (.lst ys)) l3 (.lst (ys ++ [.non])))) l1 xs8 := SqL.of (hC n12 n1.1 n1.2 e1)
              refine ⟨_, rfl, _, rfl, _, rfl, d, g, c, x, rt, td, l1, _, ys, xs8, itemsD dd, rfl, GC, by omega, SC, YC, LC, XC', okL, iAll, iNe, iLen, TC, fun HD GD KD TD => ⟨_, rfl, iteF ?_⟩⟩
              have eCD : LamX.ExtN (hid [d, g] (upd (upd (upd HA l2 (.lst [])) l3 (.lst ys)) l3 (.lst (ys ++ [.non])))) HD := fun b o e nt => by
                have nb : b ∉ [d, g] := fun hb => by
                  unfold hid at e
                  rw [if_pos hb] at e
                  cases e
                simp only [List.mem_cons, List.not_mem_nil, or_false, not_or] at nb
                exact KD b o nb.1 nb.2 nt (hid_le _ _ e)
              refine ⟨_, rfl, _, rfl, x, rt, td, l1, ys, xs8, itemsD dd, rfl, SC.ext eCD, dp_extAll eCD _ _ YC, sql_ext eCD LC, dp_extAll eCD _ _ XC', okL, iAll, iNe, iLen, fun HE sE => ⟨_, rfl, iteF ?_⟩⟩
              exact ⟨_, _, _, _, _, _, _, rfl, (GD.same sE).mono (by omega), TD.ext sE⟩
            · exact ⟨_, _, _, _, _, _, _, rfl, G8.mono (by omega), T8⟩
    · rintro σ H2 ⟨v2, v3, v4, v5, v6, v7, v8, rfl, G2, T2⟩
      exact k _
end
end K1
set_option Elab.async false
set_option linter.all false
set_option maxRecDepth 100000
set_option maxHeartbeats 4000000
namespace K1
open PySem PySem.Spec PyProof.Rows L2
theorem dfk {P : Program} {w : World} {K : PySem.W.Frag} {mg : Str → Option Value} {base : Heap} {x : Str} {k : Nat} {ps : List Str} {sp : Sp} {f : Addr} {fd : FuncData} (h : FnOk P w K mg base CX0 k f fd ps sp) (g : mg x = some (.ref f)) (kp : PySem.W.keepIn K (.ref f) = true) (b : Binds K fd ps []) : Df P w K mg base CX0 x k ps sp := ⟨f, fd, h, g, kp, b⟩
theorem kbn_self {K : PySem.W.Frag} {fd : FuncData} {y : Str} (h : ∀ u v : Value, bindArgs fd ⟨[u], [(y, v)]⟩ = pure [(("self" : Str), u), (y, v)]) : KBn K fd ["self", y] 1 [y] (fun us ws => us ++ ws) (fun vs zs => vs ++ zs) :=
  ⟨fun s us ws _ l1 l2 => match us, ws, l1, l2 with | [u], [v], _, _ => .of_eq (h u v), fun r1 r2 => r1.append r2⟩
theorem all_mk {l : PySem.W.OpenLaw} {w : World} {K : PySem.W.Frag} {h : Heap} {mg : Str → Option Value} {fa C CN CS CT c1 c2 c3 c4 c5 c6 PT PL fI cc cda fNum fLst fSma fNam fSig fBeg fMix fTak fPic fWor fLNa fRef fSom fSpo fLSi fARo fASi fTol fAli fLaw fmIn fmRo fmHa fmKi fmMa fmLe fmEq kTol kAli kLaw : Addr} (X : K.In h) (G : h.Ns mainGlobals mg) (hfa : mg "law" = some (.ref fa))
    {cdNum ocNum kVNum dcNum pmNum ctNum cdLst ocLst kVLst dcLst pmLst ctLst cdSma ocSma kVSma dcSma pmSma ctSma cdNam ocNam kVNam dcNam pmNam ctNam cdSig ocSig kVSig dcSig pmSig ctSig cdBeg ocBeg kVBeg dcBeg pmBeg ctBeg cdMix ocMix kVMix dcMix pmMix ctMix cdTak ocTak kVTak dcTak pmTak ctTak cdPic ocPic kVPic dcPic pmPic ctPic cdWor ocWor kVWor dcWor pmWor ctWor cdLNa ocLNa kVLNa dcLNa pmLNa ctLNa cdRef ocRef kVRef dcRef pmRef ctRef cdSom ocSom kVSom dcSom pmSom ctSom cdSpo ocSpo kVSpo dcSpo pmSpo ctSpo cdLSi ocLSi kVLSi dcLSi pmLSi ctLSi cdARo ocARo kVARo dcARo pmARo ctARo cdASi ocASi kVASi dcASi pmASi ctASi ocTol kVTol dcTol pmTol ctTol ocAli kVAli dcAli pmAli ctAli ocLaw kVLaw dcLaw pmLaw ctLaw cdmIn ocmIn kVmIn dcmIn pmmIn ctmIn cdmRo ocmRo kVmRo dcmRo pmmRo ctmRo cdmHa ocmHa kVmHa dcmHa pmmHa ctmHa cdmKi ocmKi kVmKi dcmKi pmmKi ctmKi cdmMa ocmMa kVmMa dcmMa pmmMa ctmMa cdmLe ocmLe kVmLe dcmLe pmmLe ctmLe cdmEq ocmEq kVmEq dcmEq pmmEq ctmEq ocI dcI pmI ctI clX cclX : Value} {odNum anNum odLst anLst odSma anSma odNam anNam odSig anSig odBeg anBeg odMix anMix odTak anTak odPic anPic odWor anWor odLNa anLNa odRef anRef odSom anSom odSpo anSpo odLSi anLSi odARo anARo odASi anASi odTol anTol odAli anAli odLaw anLaw odmIn anmIn odmRo anmRo odmHa anmHa odmKi anmKi odmMa anmMa odmLe anmLe odmEq anmEq odI anI cldX cddX : Option Addr} {slNum slLst slSma slNam slSig slBeg slMix slTak slPic slWor slLNa slRef slSom slSpo slLSi slARo slASi slTol slAli slLaw slmIn slmRo slmHa slmKi slmMa slmLe slmEq slI cslX ccsX : Array (Option Value)} {tSM tNL tMS tMP tfX : Tok} {fileX : Str} {vsX : Array Value}
    {nmS qS : Str} {NS : Addr} {bsS bmS : List Value} {snS : List Str} {subS : List Value} {abS : Bool} {colS : Option Bool} {ddS : Option Addr} {m0S m1S m2S m3S m5S : Option Value} {ts : List Addr} (hT : ∀ P ∈ ts, h.get? P = some (PySem.W.tabObj #[]))
    (gC : PySem.W.nsIn K mainGlobals "Signs" = some (some (.ref C)))
    (gCN : PySem.W.nsIn K mainGlobals "NoSigns" = some (some (.ref CN)))
    (gCS : PySem.W.nsIn K mainGlobals "NoSign" = some (some (.ref CS)))
    (gCT : PySem.W.nsIn K mainGlobals "TurnError" = some (some (.ref CT)))
    (gc1 : PySem.W.nsIn K mainGlobals "NoName" = some (some (.ref c1)))
    (gc2 : PySem.W.nsIn K mainGlobals "NoTerm" = some (some (.ref c2)))
    (gc3 : PySem.W.nsIn K mainGlobals "NoText" = some (some (.ref c3)))
    (gc4 : PySem.W.nsIn K mainGlobals "TooMany" = some (some (.ref c4)))
    (gc5 : PySem.W.nsIn K mainGlobals "TooGreat" = some (some (.ref c5)))
    (gc6 : PySem.W.nsIn K mainGlobals "NoPattern" = some (some (.ref c6)))
    (aNum : PySem.W.nsIn K mainGlobals "is_number" = some (some (.ref fNum)))
    (lNum : K.lookup fNum = some ⟨ocNum, odNum, .func (PySem.W.fnOf "is_number" "is_number" (defArgs sNum) (defBody sNum) (defScope sNum) .none kVNum dcNum pmNum anNum cdNum ctNum), slNum⟩)
    (cNum : PySem.W.codeIn K cdNum "is_number" = true)
    (kNum_ : PySem.W.keepIn K (.ref fNum) = true)
    (aLst : PySem.W.nsIn K mainGlobals "is_list" = some (some (.ref fLst)))
    (lLst : K.lookup fLst = some ⟨ocLst, odLst, .func (PySem.W.fnOf "is_list" "is_list" (defArgs sList) (defBody sList) (defScope sList) .none kVLst dcLst pmLst anLst cdLst ctLst), slLst⟩)
    (cLst : PySem.W.codeIn K cdLst "is_list" = true)
    (kLst_ : PySem.W.keepIn K (.ref fLst) = true)
    (aSma : PySem.W.nsIn K mainGlobals "is_small" = some (some (.ref fSma)))
    (lSma : K.lookup fSma = some ⟨ocSma, odSma, .func (PySem.W.fnOf "is_small" "is_small" (defArgs sSmall) (defBody sSmall) (defScope sSmall) .none kVSma dcSma pmSma anSma cdSma ctSma), slSma⟩)
    (cSma : PySem.W.codeIn K cdSma "is_small" = true)
    (kSma_ : PySem.W.keepIn K (.ref fSma) = true)
    (aNam : PySem.W.nsIn K mainGlobals "is_name" = some (some (.ref fNam)))
    (lNam : K.lookup fNam = some ⟨ocNam, odNam, .func (PySem.W.fnOf "is_name" "is_name" (defArgs sName) (defBody sName) (defScope sName) .none kVNam dcNam pmNam anNam cdNam ctNam), slNam⟩)
    (cNam : PySem.W.codeIn K cdNam "is_name" = true)
    (kNam_ : PySem.W.keepIn K (.ref fNam) = true)
    (aSig : PySem.W.nsIn K mainGlobals "is_sign" = some (some (.ref fSig)))
    (lSig : K.lookup fSig = some ⟨ocSig, odSig, .func (PySem.W.fnOf "is_sign" "is_sign" (defArgs sSign) (defBody sSign) (defScope sSign) .none kVSig dcSig pmSig anSig cdSig ctSig), slSig⟩)
    (cSig : PySem.W.codeIn K cdSig "is_sign" = true)
    (kSig_ : PySem.W.keepIn K (.ref fSig) = true)
    (aBeg : PySem.W.nsIn K mainGlobals "_law_begun" = some (some (.ref fBeg)))
    (lBeg : K.lookup fBeg = some ⟨ocBeg, odBeg, .func (PySem.W.fnOf "_law_begun" "_law_begun" (defArgs sBegun) (defBody sBegun) (defScope sBegun) .none kVBeg dcBeg pmBeg anBeg cdBeg ctBeg), slBeg⟩)
    (cBeg : PySem.W.codeIn K cdBeg "_law_begun" = true)
    (kBeg_ : PySem.W.keepIn K (.ref fBeg) = true)
    (aMix : PySem.W.nsIn K mainGlobals "_law_mixed" = some (some (.ref fMix)))
    (lMix : K.lookup fMix = some ⟨ocMix, odMix, .func (PySem.W.fnOf "_law_mixed" "_law_mixed" (defArgs sMixed) (defBody sMixed) (defScope sMixed) .none kVMix dcMix pmMix anMix cdMix ctMix), slMix⟩)
    (cMix : PySem.W.codeIn K cdMix "_law_mixed" = true)
    (kMix_ : PySem.W.keepIn K (.ref fMix) = true)
    (aTak : PySem.W.nsIn K mainGlobals "_law_take" = some (some (.ref fTak)))
    (lTak : K.lookup fTak = some ⟨ocTak, odTak, .func (PySem.W.fnOf "_law_take" "_law_take" (defArgs sTake) (defBody sTake) (defScope sTake) .none kVTak dcTak pmTak anTak cdTak ctTak), slTak⟩)
    (cTak : PySem.W.codeIn K cdTak "_law_take" = true)
    (kTak_ : PySem.W.keepIn K (.ref fTak) = true)
    (aPic : PySem.W.nsIn K mainGlobals "_law_pick" = some (some (.ref fPic)))
    (lPic : K.lookup fPic = some ⟨ocPic, odPic, .func (PySem.W.fnOf "_law_pick" "_law_pick" (defArgs sPick') (defBody sPick') (defScope sPick') .none kVPic dcPic pmPic anPic cdPic ctPic), slPic⟩)
    (cPic : PySem.W.codeIn K cdPic "_law_pick" = true)
    (kPic_ : PySem.W.keepIn K (.ref fPic) = true)
    (aWor : PySem.W.nsIn K mainGlobals "_law_words" = some (some (.ref fWor)))
    (lWor : K.lookup fWor = some ⟨ocWor, odWor, .func (PySem.W.fnOf "_law_words" "_law_words" (defArgs sWords) (defBody sWords) (defScope sWords) .none kVWor dcWor pmWor anWor cdWor ctWor), slWor⟩)
    (cWor : PySem.W.codeIn K cdWor "_law_words" = true)
    (kWor_ : PySem.W.keepIn K (.ref fWor) = true)
    (aLNa : PySem.W.nsIn K mainGlobals "_law_is_name" = some (some (.ref fLNa)))
    (lLNa : K.lookup fLNa = some ⟨ocLNa, odLNa, .func (PySem.W.fnOf "_law_is_name" "_law_is_name" (defArgs sLName) (defBody sLName) (defScope sLName) .none kVLNa dcLNa pmLNa anLNa cdLNa ctLNa), slLNa⟩)
    (cLNa : PySem.W.codeIn K cdLNa "_law_is_name" = true)
    (kLNa_ : PySem.W.keepIn K (.ref fLNa) = true)
    (aRef : PySem.W.nsIn K mainGlobals "_law_refused" = some (some (.ref fRef)))
    (lRef : K.lookup fRef = some ⟨ocRef, odRef, .func (PySem.W.fnOf "_law_refused" "_law_refused" (defArgs sRef) (defBody sRef) (defScope sRef) .none kVRef dcRef pmRef anRef cdRef ctRef), slRef⟩)
    (cRef : PySem.W.codeIn K cdRef "_law_refused" = true)
    (kRef_ : PySem.W.keepIn K (.ref fRef) = true)
    (aSom : PySem.W.nsIn K mainGlobals "_law_some_rows" = some (some (.ref fSom)))
    (lSom : K.lookup fSom = some ⟨ocSom, odSom, .func (PySem.W.fnOf "_law_some_rows" "_law_some_rows" (defArgs sSome) (defBody sSome) (defScope sSome) .none kVSom dcSom pmSom anSom cdSom ctSom), slSom⟩)
    (cSom : PySem.W.codeIn K cdSom "_law_some_rows" = true)
    (kSom_ : PySem.W.keepIn K (.ref fSom) = true)
    (aSpo : PySem.W.nsIn K mainGlobals "_law_spoilt" = some (some (.ref fSpo)))
    (lSpo : K.lookup fSpo = some ⟨ocSpo, odSpo, .func (PySem.W.fnOf "_law_spoilt" "_law_spoilt" (defArgs sSpoilt) (defBody sSpoilt) (defScope sSpoilt) .none kVSpo dcSpo pmSpo anSpo cdSpo ctSpo), slSpo⟩)
    (cSpo : PySem.W.codeIn K cdSpo "_law_spoilt" = true)
    (kSpo_ : PySem.W.keepIn K (.ref fSpo) = true)
    (aLSi : PySem.W.nsIn K mainGlobals "_law_is_sign" = some (some (.ref fLSi)))
    (lLSi : K.lookup fLSi = some ⟨ocLSi, odLSi, .func (PySem.W.fnOf "_law_is_sign" "_law_is_sign" (defArgs sLSign) (defBody sLSign) (defScope sLSign) .none kVLSi dcLSi pmLSi anLSi cdLSi ctLSi), slLSi⟩)
    (cLSi : PySem.W.codeIn K cdLSi "_law_is_sign" = true)
    (kLSi_ : PySem.W.keepIn K (.ref fLSi) = true)
    (aARo : PySem.W.nsIn K mainGlobals "_law_are_rows" = some (some (.ref fARo)))
    (lARo : K.lookup fARo = some ⟨ocARo, odARo, .func (PySem.W.fnOf "_law_are_rows" "_law_are_rows" (defArgs sAreRows) (defBody sAreRows) (defScope sAreRows) .none kVARo dcARo pmARo anARo cdARo ctARo), slARo⟩)
    (cARo : PySem.W.codeIn K cdARo "_law_are_rows" = true)
    (kARo_ : PySem.W.keepIn K (.ref fARo) = true)
    (aASi : PySem.W.nsIn K mainGlobals "_law_are_signs" = some (some (.ref fASi)))
    (lASi : K.lookup fASi = some ⟨ocASi, odASi, .func (PySem.W.fnOf "_law_are_signs" "_law_are_signs" (defArgs sAreSigns) (defBody sAreSigns) (defScope sAreSigns) .none kVASi dcASi pmASi anASi cdASi ctASi), slASi⟩)
    (cASi : PySem.W.codeIn K cdASi "_law_are_signs" = true)
    (kASi_ : PySem.W.keepIn K (.ref fASi) = true)
    (aTol : PySem.W.nsIn K mainGlobals "_law_told_right" = some (some (.ref fTol)))
    (lTol : K.lookup fTol = some ⟨ocTol, odTol, .func (PySem.W.fnOf "_law_told_right" "_law_told_right" (defArgs sTold) (defBody sTold) (defScope sTold) .none kVTol dcTol pmTol anTol (.ref kTol) ctTol), slTol⟩)
    (cTol : PySem.W.codeIn K (.ref kTol) "_law_told_right" = true)
    (kTol_ : PySem.W.keepIn K (.ref fTol) = true)
    (aAli : PySem.W.nsIn K mainGlobals "_law_alike_right" = some (some (.ref fAli)))
    (lAli : K.lookup fAli = some ⟨ocAli, odAli, .func (PySem.W.fnOf "_law_alike_right" "_law_alike_right" (defArgs sAlike) (defBody sAlike) (defScope sAlike) .none kVAli dcAli pmAli anAli (.ref kAli) ctAli), slAli⟩)
    (cAli : PySem.W.codeIn K (.ref kAli) "_law_alike_right" = true)
    (kAli_ : PySem.W.keepIn K (.ref fAli) = true)
    (aLaw : PySem.W.nsIn K mainGlobals "law" = some (some (.ref fLaw)))
    (lLaw : K.lookup fLaw = some ⟨ocLaw, odLaw, .func (PySem.W.fnOf "law" "law" (defArgs sLaw) (defBody sLaw) (defScope sLaw) .none kVLaw dcLaw pmLaw anLaw (.ref kLaw) ctLaw), slLaw⟩)
    (cLaw : PySem.W.codeIn K (.ref kLaw) "law" = true)
    (kLaw_ : PySem.W.keepIn K (.ref fLaw) = true)
    (amIn : PySem.W.findIn K (.ref C) "__init__" = some (some (.ref fmIn)))
    (imIn : PySem.W.isFn K (.ref fmIn) = true)
    (lmIn : K.lookup fmIn = some ⟨ocmIn, odmIn, .func (PySem.W.fnOf "__init__" "Signs.__init__" (defArgs sInit) (defBody sInit) (defScope sInit) .none kVmIn dcmIn pmmIn anmIn cdmIn ctmIn), slmIn⟩)
    (cmIn : PySem.W.codeIn K cdmIn "Signs.__init__" = true)
    (kmIn_ : PySem.W.keepIn K (.ref fmIn) = true)
    (amRo : PySem.W.findIn K (.ref C) "rows" = some (some (.ref fmRo)))
    (imRo : PySem.W.isFn K (.ref fmRo) = true)
    (lmRo : K.lookup fmRo = some ⟨ocmRo, odmRo, .func (PySem.W.fnOf "rows" "Signs.rows" (defArgs sRows) (defBody sRows) (defScope sRows) .none kVmRo dcmRo pmmRo anmRo cdmRo ctmRo), slmRo⟩)
    (cmRo : PySem.W.codeIn K cdmRo "Signs.rows" = true)
    (kmRo_ : PySem.W.keepIn K (.ref fmRo) = true)
    (amHa : PySem.W.findIn K (.ref C) "has" = some (some (.ref fmHa)))
    (imHa : PySem.W.isFn K (.ref fmHa) = true)
    (lmHa : K.lookup fmHa = some ⟨ocmHa, odmHa, .func (PySem.W.fnOf "has" "Signs.has" (defArgs sHas) (defBody sHas) (defScope sHas) .none kVmHa dcmHa pmmHa anmHa cdmHa ctmHa), slmHa⟩)
    (cmHa : PySem.W.codeIn K cdmHa "Signs.has" = true)
    (kmHa_ : PySem.W.keepIn K (.ref fmHa) = true)
    (amKi : PySem.W.findIn K (.ref C) "kind" = some (some (.ref fmKi)))
    (imKi : PySem.W.isFn K (.ref fmKi) = true)
    (lmKi : K.lookup fmKi = some ⟨ocmKi, odmKi, .func (PySem.W.fnOf "kind" "Signs.kind" (defArgs sKind) (defBody sKind) (defScope sKind) .none kVmKi dcmKi pmmKi anmKi cdmKi ctmKi), slmKi⟩)
    (cmKi : PySem.W.codeIn K cdmKi "Signs.kind" = true)
    (kmKi_ : PySem.W.keepIn K (.ref fmKi) = true)
    (amMa : PySem.W.findIn K (.ref C) "many" = some (some (.ref fmMa)))
    (imMa : PySem.W.isFn K (.ref fmMa) = true)
    (lmMa : K.lookup fmMa = some ⟨ocmMa, odmMa, .func (PySem.W.fnOf "many" "Signs.many" (defArgs sMany) (defBody sMany) (defScope sMany) .none kVmMa dcmMa pmmMa anmMa cdmMa ctmMa), slmMa⟩)
    (cmMa : PySem.W.codeIn K cdmMa "Signs.many" = true)
    (kmMa_ : PySem.W.keepIn K (.ref fmMa) = true)
    (amLe : PySem.W.findIn K (.ref C) "__len__" = some (some (.ref fmLe)))
    (imLe : PySem.W.isFn K (.ref fmLe) = true)
    (lmLe : K.lookup fmLe = some ⟨ocmLe, odmLe, .func (PySem.W.fnOf "__len__" "Signs.__len__" (defArgs sLen) (defBody sLen) (defScope sLen) .none kVmLe dcmLe pmmLe anmLe cdmLe ctmLe), slmLe⟩)
    (cmLe : PySem.W.codeIn K cdmLe "Signs.__len__" = true)
    (kmLe_ : PySem.W.keepIn K (.ref fmLe) = true)
    (amEq : PySem.W.findIn K (.ref C) "__eq__" = some (some (.ref fmEq)))
    (imEq : PySem.W.isFn K (.ref fmEq) = true)
    (lmEq : K.lookup fmEq = some ⟨ocmEq, odmEq, .func (PySem.W.fnOf "__eq__" "Signs.__eq__" (defArgs sEq) (defBody sEq) (defScope sEq) .none kVmEq dcmEq pmmEq anmEq cdmEq ctmEq), slmEq⟩)
    (cmEq : PySem.W.codeIn K cdmEq "Signs.__eq__" = true)
    (kmEq_ : PySem.W.keepIn K (.ref fmEq) = true)
    (xSM : PySem.W.nsIn K mainGlobals "SMALL" = some (some (.str abc tSM)))
    (xNL : PySem.W.nsIn K mainGlobals "NAME_LETTERS" = some (some (.int 8 tNL)))
    (xMS : PySem.W.nsIn K mainGlobals "MOST_SIGNS" = some (some (.int 24 tMS)))
    (xMP : PySem.W.nsIn K mainGlobals "MOST_PLAIN" = some (some (.int 4 tMP)))
    (z_isinstance : PySem.W.nsIn K mainGlobals "isinstance" = some none)
    (z_int : PySem.W.nsIn K mainGlobals "int" = some none)
    (z_bool : PySem.W.nsIn K mainGlobals "bool" = some none)
    (z_str : PySem.W.nsIn K mainGlobals "str" = some none)
    (z_list : PySem.W.nsIn K mainGlobals "list" = some none)
    (z_tuple : PySem.W.nsIn K mainGlobals "tuple" = some none)
    (z_len : PySem.W.nsIn K mainGlobals "len" = some none)
    (z_all : PySem.W.nsIn K mainGlobals "all" = some none)
    (z_range : PySem.W.nsIn K mainGlobals "range" = some none)
    (z_repr : PySem.W.nsIn K mainGlobals "repr" = some none)
    (z_dict : PySem.W.nsIn K mainGlobals "dict" = some none)
    (z_ValueError : PySem.W.nsIn K mainGlobals "ValueError" = some none)
    (z_super : PySem.W.nsIn K mainGlobals "super" = some none)
    (pg : PySem.W.plainGet K C Str.empty = true)
    (hd : PySem.W.hasDictIn K C = true)
    (po : PySem.W.plainOver K C = true)
    (sa : PySem.W.findIn K (.ref C) "__setattr__" = some (some (.builtin "object.__setattr__")))
    (nR : PySem.W.findIn K (.ref C) "_rows" = some none)
    (nT : PySem.W.findIn K (.ref C) "_table" = some none)
    (mkC : PySem.W.makesIn K C = true)
    (kpC : PySem.W.keepIn K (.ref C) = true)
    (neC : PySem.W.findIn K (.ref C) "__ne__" = some (some (.builtin "object.__ne__")))
    (qa : PySem.W.findIn K (.ref C) "__class__" = some (some (.builtin "object.__class__")))
    (qn : PySem.W.specialIn K (.builtin "object.__class__") "__get__" = some (some (.builtin "getset_descriptor.__get__")))
    (qt : PySem.W.takesIn K (.builtin "object.__class__") = some true)
    (qm : PySem.W.mroIn K C (.type "object") = some true)
    (qo : PySem.W.kitOne K (.ref C) (.ref C) = some true)
    (qk_NoneType : PySem.W.kitOne K (.type "NoneType") (.ref C) = some false)
    (qf_NoneType : PySem.W.notFirst K C (.type "NoneType") = true)
    (qk_bool : PySem.W.kitOne K (.type "bool") (.ref C) = some false)
    (qf_bool : PySem.W.notFirst K C (.type "bool") = true)
    (qk_int : PySem.W.kitOne K (.type "int") (.ref C) = some false)
    (qf_int : PySem.W.notFirst K C (.type "int") = true)
    (qk_str : PySem.W.kitOne K (.type "str") (.ref C) = some false)
    (qf_str : PySem.W.notFirst K C (.type "str") = true)
    (qk_list : PySem.W.kitOne K (.type "list") (.ref C) = some false)
    (qf_list : PySem.W.notFirst K C (.type "list") = true)
    (qk_tuple : PySem.W.kitOne K (.type "tuple") (.ref C) = some false)
    (qf_tuple : PySem.W.notFirst K C (.type "tuple") = true)
    (qk_dict : PySem.W.kitOne K (.type "dict") (.ref C) = some false)
    (qf_dict : PySem.W.notFirst K C (.type "dict") = true)
    (xN : PySem.W.excIn K CN [.type "ValueError", .type "Exception", .type "BaseException", .type "object"] "ValueError.__new__" = true)
    (kN : PySem.W.keepIn K (.ref CN) = true)
    (sN : PySem.W.subIn K (.ref CN) (.type "BaseException") = some true)
    (tN : PySem.W.typeIn K (.ref CN) = some (.type "type"))
    (xS : K.lookup CS = some (excClassObj nmS qS CS NS bsS bmS true snS subS abS colS ddS m0S m1S m2S m3S m5S "ValueError.__new__"))
    (rS : PySem.HandSPX.refsVE bmS = true)
    (aS : PySem.W.alongIn K "__init__" bmS = some (some (.builtin "ValueError.__init__")))
    (saS : PySem.W.findIn K (.ref CS) "__setattr__" = some (some (.builtin "object.__setattr__")))
    (nnS : PySem.W.findIn K (.ref CS) "name" = some none)
    (iiS : PySem.W.findIn K (.ref CS) "__init__" = some (some (.ref fI)))
    (ttI : PySem.W.typeIn K (.ref fI) = some (.type "function"))
    (kkS : PySem.W.keepIn K (.ref CS) = true)
    (exS : PySem.W.subIn K (.ref CS) (.type "BaseException") = some true)
    (veS : PySem.W.subIn K (.ref CS) (.type "ValueError") = some true)
    (mrS : PySem.W.mroIn K CS (.ref CS) = some true)
    (tyS : PySem.W.typeIn K (.ref CS) = some (.type "type"))
    (oqS : PySem.W.nsIn K cStatics "thirdparty.any" = some none)
    (lfI : K.lookup fI = some ⟨ocI, odI, .func (PySem.W.ksFn "__init__" "NoSign.__init__" (defArgs PySem.NsX.sNs) (defBody PySem.NsX.sNs) (defScope PySem.NsX.sNs) .none .none dcI pmI anI (.ref cda) ctI cc), slI⟩)
    (cfI : PySem.W.codeIn K (.ref cda) "NoSign.__init__" = true)
    (lcc : K.lookup cc = some ⟨clX, cldX, .cell (some (.ref CS)), cslX⟩)
    (lcd : K.lookup cda = some ⟨cclX, cddX, .fields vsX, ccsX⟩)
    (v2X : vsX[2]? = some (.str fileX tfX))
    (flX : ((l.prog.main.file : Str) == fileX) = true)
    (tpX : (l.prog.main.scope.names.lookup ("super" : Str)).isSome = false)
    (emN : PySem.W.exmOne K (.ref CN) (.ref CT) = some true)
    (egN : PySem.W.findIn K (.ref CN) "__getattribute__" = some (some (.builtin "BaseException.__getattribute__")))
    (ekN : PySem.W.findIn K (.ref CN) "__getattr__" = some none)
    (edN : PySem.W.hasDictIn K CN = true)
    (eaN : PySem.W.findIn K (.ref CN) "__class__" = some (some (.builtin "object.__class__")))
    (eoN : PySem.W.mroIn K CN (.type "object") = some true)
    (e6N : PySem.W.kitAny K (.ref CN) [.ref c1, .ref c2, .ref c3, .ref c4, .ref c5, .ref c6] = some false)
    (eVN : PySem.W.kitOne K (.ref CN) (.type "ValueError") = some true)
    (emS : PySem.W.exmOne K (.ref CS) (.ref CT) = some true)
    (egS : PySem.W.findIn K (.ref CS) "__getattribute__" = some (some (.builtin "BaseException.__getattribute__")))
    (ekS : PySem.W.findIn K (.ref CS) "__getattr__" = some none)
    (edS : PySem.W.hasDictIn K CS = true)
    (eaS : PySem.W.findIn K (.ref CS) "__class__" = some (some (.builtin "object.__class__")))
    (eoS : PySem.W.mroIn K CS (.type "object") = some true)
    (e6S : PySem.W.kitAny K (.ref CS) [.ref c1, .ref c2, .ref c3, .ref c4, .ref c5, .ref c6] = some false)
    (eVS : PySem.W.kitOne K (.ref CS) (.type "ValueError") = some true)
    (ynn : PySem.W.kitOne K (.ref CN) (.ref CN) = some true)
    (yns : PySem.W.kitOne K (.ref CN) (.ref CS) = some false)
    (ysn : PySem.W.kitOne K (.ref CS) (.ref CN) = some false)
    (yss : PySem.W.kitOne K (.ref CS) (.ref CS) = some true)
    (mT : PT ∈ ts)
    (mL : PL ∈ ts)
    (oT : K.lookup PT = none)
    (oL : K.lookup PL = none)
    (hdT : PySem.W.codeHdIn K kTol PT = true)
    (hdL : PySem.W.codeHdIn K kLaw PL = true)
    (nTL : (PT == PL) = false)
    : LawG l w K 12 63 "_law_script" mg fa h := by
  have e := hfa.symm.trans (PySem.W.mg_of X G aLaw)
  cases e
  have FNum := fun_mk (st := sNum) lNum cNum kNum_
  have bNum := FNum.binds (ps := ["thing"]) fun _ _ _ _ _ _ us hl => match us, hl with | [_], _ => rfl
  have gNum_ := PySem.W.mg_of X G aNum
  have FLst := fun_mk (st := sList) lLst cLst kLst_
  have bLst := FLst.binds (ps := ["thing"]) fun _ _ _ _ _ _ us hl => match us, hl with | [_], _ => rfl
  have gLst_ := PySem.W.mg_of X G aLst
  have FSma := fun_mk (st := sSmall) lSma cSma kSma_
  have bSma := FSma.binds (ps := ["text"]) fun _ _ _ _ _ _ us hl => match us, hl with | [_], _ => rfl
  have gSma_ := PySem.W.mg_of X G aSma
  have FNam := fun_mk (st := sName) lNam cNam kNam_
  have bNam := FNam.binds (ps := ["thing"]) fun _ _ _ _ _ _ us hl => match us, hl with | [_], _ => rfl
  have gNam_ := PySem.W.mg_of X G aNam
  have FSig := fun_mk (st := sSign) lSig cSig kSig_
  have bSig := FSig.binds (ps := ["thing"]) fun _ _ _ _ _ _ us hl => match us, hl with | [_], _ => rfl
  have gSig_ := PySem.W.mg_of X G aSig
  have FBeg := fun_mk (st := sBegun) lBeg cBeg kBeg_
  have bBeg := FBeg.binds (ps := ["_law_script"]) fun _ _ _ _ _ _ us hl => match us, hl with | [_], _ => rfl
  have gBeg_ := PySem.W.mg_of X G aBeg
  have FMix := fun_mk (st := sMixed) lMix cMix kMix_
  have bMix := FMix.binds (ps := ["_law_state"]) fun _ _ _ _ _ _ us hl => match us, hl with | [_], _ => rfl
  have gMix_ := PySem.W.mg_of X G aMix
  have FTak := fun_mk (st := sTake) lTak cTak kTak_
  have bTak := FTak.binds (ps := ["_law_state", "_law_size"]) fun _ _ _ _ _ _ us hl => match us, hl with | [_, _], _ => rfl
  have gTak_ := PySem.W.mg_of X G aTak
  have FPic := fun_mk (st := sPick') lPic cPic kPic_
  have bPic := FPic.binds (ps := ["_law_state", "_law_picks"]) fun _ _ _ _ _ _ us hl => match us, hl with | [_, _], _ => rfl
  have gPic_ := PySem.W.mg_of X G aPic
  have FWor := fun_mk (st := sWords) lWor cWor kWor_
  have bWor := FWor.binds (ps := ["_law_state", "_law_size"]) fun _ _ _ _ _ _ us hl => match us, hl with | [_, _], _ => rfl
  have gWor_ := PySem.W.mg_of X G aWor
  have FLNa := fun_mk (st := sLName) lLNa cLNa kLNa_
  have bLNa := FLNa.binds (ps := ["_law_matter"]) fun _ _ _ _ _ _ us hl => match us, hl with | [_], _ => rfl
  have gLNa_ := PySem.W.mg_of X G aLNa
  have FRef := fun_mk (st := sRef) lRef cRef kRef_
  have bRef := FRef.binds (ps := ["_law_work"]) fun _ _ _ _ _ _ us hl => match us, hl with | [_], _ => rfl
  have gRef_ := PySem.W.mg_of X G aRef
  have FSom := fun_mk (st := sSome) lSom cSom kSom_
  have bSom := FSom.binds (ps := ["_law_state"]) fun _ _ _ _ _ _ us hl => match us, hl with | [_], _ => rfl
  have gSom_ := PySem.W.mg_of X G aSom
  have FSpo := fun_mk (st := sSpoilt) lSpo cSpo kSpo_
  have bSpo := FSpo.binds (ps := ["_law_state", "_law_lines"]) fun _ _ _ _ _ _ us hl => match us, hl with | [_, _], _ => rfl
  have gSpo_ := PySem.W.mg_of X G aSpo
  have FLSi := fun_mk (st := sLSign) lLSi cLSi kLSi_
  have bLSi := FLSi.binds (ps := ["_law_matter"]) fun _ _ _ _ _ _ us hl => match us, hl with | [_], _ => rfl
  have gLSi_ := PySem.W.mg_of X G aLSi
  have FARo := fun_mk (st := sAreRows) lARo cARo kARo_
  have bARo := FARo.binds (ps := ["_law_lines"]) fun _ _ _ _ _ _ us hl => match us, hl with | [_], _ => rfl
  have gARo_ := PySem.W.mg_of X G aARo
  have FASi := fun_mk (st := sAreSigns) lASi cASi kASi_
  have bASi := FASi.binds (ps := ["_law_matter"]) fun _ _ _ _ _ _ us hl => match us, hl with | [_], _ => rfl
  have gASi_ := PySem.W.mg_of X G aASi
  have FTol : FunC K "_law_told_right" sTold fTol _ kTol := ⟨⟨ocTol, odTol, kVTol, dcTol, pmTol, anTol, ctTol, slTol, rfl, lTol, cTol⟩, kTol_⟩
  have FTol' := fun_mk (st := sTold) lTol cTol kTol_
  have bTol := FTol'.binds (ps := ["_law_state", "_law_stock", "_law_lines"]) fun _ _ _ _ _ _ us hl => match us, hl with | [_, _, _], _ => rfl
  have gTol_ := PySem.W.mg_of X G aTol
  have FAli : FunC K "_law_alike_right" sAlike fAli _ kAli := ⟨⟨ocAli, odAli, kVAli, dcAli, pmAli, anAli, ctAli, slAli, rfl, lAli, cAli⟩, kAli_⟩
  have FAli' := fun_mk (st := sAlike) lAli cAli kAli_
  have bAli := FAli'.binds (ps := ["_law_stock", "_law_lines"]) fun _ _ _ _ _ _ us hl => match us, hl with | [_, _], _ => rfl
  have gAli_ := PySem.W.mg_of X G aAli
  have FLaw : FunC K "law" sLaw fa _ kLaw := ⟨⟨ocLaw, odLaw, kVLaw, dcLaw, pmLaw, anLaw, ctLaw, slLaw, rfl, lLaw, cLaw⟩, kLaw_⟩
  have FLaw' := fun_mk (st := sLaw) lLaw cLaw kLaw_
  have bLaw := FLaw'.binds (ps := ["_law_script"]) fun _ _ _ _ _ _ us hl => match us, hl with | [_], _ => rfl
  have gLaw_ := PySem.W.mg_of X G aLaw
  have FmIn := fun_mk (st := sInit) lmIn cmIn kmIn_
  have bmIn := FmIn.binds (ps := ["self", "rows"]) fun _ _ _ _ _ _ us hl => match us, hl with | [_, _], _ => rfl
  have FmRo := fun_mk (st := sRows) lmRo cmRo kmRo_
  have bmRo := FmRo.binds (ps := ["self"]) fun _ _ _ _ _ _ us hl => match us, hl with | [_], _ => rfl
  have FmHa := fun_mk (st := sHas) lmHa cmHa kmHa_
  have bmHa := FmHa.binds (ps := ["self", "name"]) fun _ _ _ _ _ _ us hl => match us, hl with | [_, _], _ => rfl
  have FmKi := fun_mk (st := sKind) lmKi cmKi kmKi_
  have bmKi := FmKi.binds (ps := ["self", "name"]) fun _ _ _ _ _ _ us hl => match us, hl with | [_, _], _ => rfl
  have FmMa := fun_mk (st := sMany) lmMa cmMa kmMa_
  have bmMa := FmMa.binds (ps := ["self", "name"]) fun _ _ _ _ _ _ us hl => match us, hl with | [_, _], _ => rfl
  have FmLe := fun_mk (st := sLen) lmLe cmLe kmLe_
  have bmLe := FmLe.binds (ps := ["self"]) fun _ _ _ _ _ _ us hl => match us, hl with | [_], _ => rfl
  have FmEq := fun_mk (st := sEq) lmEq cmEq kmEq_
  have bmEq := FmEq.binds (ps := ["self", "other"]) fun _ _ _ _ _ _ us hl => match us, hl with | [_, _], _ => rfl
  have hC := PySem.W.mg_of X G gC
  have hCN := PySem.W.mg_of X G gCN
  have hCS := PySem.W.mg_of X G gCS
  have hCT := PySem.W.mg_of X G gCT
  have hc1 := PySem.W.mg_of X G gc1
  have hc2 := PySem.W.mg_of X G gc2
  have hc3 := PySem.W.mg_of X G gc3
  have hc4 := PySem.W.mg_of X G gc4
  have hc5 := PySem.W.mg_of X G gc5
  have hc6 := PySem.W.mg_of X G gc6
  have w_isinstance := PySem.W.mg_none_of X G z_isinstance
  have w_int := PySem.W.mg_none_of X G z_int
  have w_bool := PySem.W.mg_none_of X G z_bool
  have w_str := PySem.W.mg_none_of X G z_str
  have w_list := PySem.W.mg_none_of X G z_list
  have w_tuple := PySem.W.mg_none_of X G z_tuple
  have w_len := PySem.W.mg_none_of X G z_len
  have w_all := PySem.W.mg_none_of X G z_all
  have w_range := PySem.W.mg_none_of X G z_range
  have w_repr := PySem.W.mg_none_of X G z_repr
  have w_dict := PySem.W.mg_none_of X G z_dict
  have w_ValueError := PySem.W.mg_none_of X G z_ValueError
  have w_super := PySem.W.mg_none_of X G z_super
  have B : Cs mg := ⟨⟨_, PySem.W.mg_of X G xSM⟩, ⟨_, PySem.W.mg_of X G xNL⟩, ⟨_, PySem.W.mg_of X G xMS⟩, ⟨_, PySem.W.mg_of X G xMP⟩, w_isinstance, w_int, w_bool, w_str, w_list, w_tuple, w_len, w_all, w_range, w_repr, w_dict⟩
  have Tx : Txt mg := ⟨w_list⟩
  have Bx : Bt mg := ⟨w_list, w_len, w_range⟩
  have Gc : SgC K C := ⟨⟨pg, hd, po, sa⟩, nR, nT⟩
  have GI : SgI K C := ⟨qa, qn, qt, qm, qo, qk_NoneType, qk_bool, qk_int, qk_str, qk_list, qk_tuple, qk_dict⟩
  have nF : ∀ d : PyData, PySem.W.notFirst K C (.type (tyOf d)) = true := fun d => by cases d <;> assumption
  have XN : XC K mg "NoSigns" CN := ⟨hCN, xN, kN, sN, tN⟩
  have NT : PySem.NsX.NsTxt l.prog K CS CT fI cc cda := ⟨⟨_, _, _, _, _, _, _, _, _, _, _, _, _, _, _, xS, rS, aS⟩, saS, nnS, iiS, ttI, kkS, exS, veS, mrS, tyS, oqS, z_super, ⟨_, _, _, lcc⟩, ⟨_, _, _, _, _, _, lcd, v2X, flX⟩, tpX, ⟨_, _, _, _, _, _, _, lfI, cfI⟩⟩
  have eN : ExcC K CN := ⟨egN, ekN, sN, edN, eaN, qn, qt, eoN⟩
  have eS : ExcC K CS := ⟨egS, ekS, exS, edS, eaS, qn, qt, eoS⟩
  have R : RfC K mg CN CS CT c1 c2 c3 c4 c5 c6 := ⟨hCN, hCS, hCT, hc1, hc2, hc3, hc4, hc5, hc6, w_ValueError, emN, emS, eN, eS, ynn, yns, ysn, yss, e6N, e6S, eVN, eVS, ⟨egS, ekS, exS, edS⟩, nnS⟩
  have M : Mk K C fmIn := ⟨mkC, amIn, imIn, kpC⟩
  have kI : KBn K _ ["self", "rows"] 1 ["rows"] (fun us ws => us ++ ws) (fun vs zs => vs ++ zs) := kbn_self (fd := PySem.W.fnOf "__init__" "Signs.__init__" (defArgs sInit) (defBody sInit) (defScope sInit) .none kVmIn dcmIn pmmIn anmIn cdmIn ctmIn) fun _ _ => rfl
  have kK : KBn K _ ["self", "name"] 1 ["name"] (fun us ws => us ++ ws) (fun vs zs => vs ++ zs) := kbn_self (fd := PySem.W.fnOf "kind" "Signs.kind" (defArgs sKind) (defBody sKind) (defScope sKind) .none kVmKi dcmKi pmmKi anmKi cdmKi ctmKi) fun _ _ => rfl
  have kM : KBn K _ ["self", "name"] 1 ["name"] (fun us ws => us ++ ws) (fun vs zs => vs ++ zs) := kbn_self (fd := PySem.W.fnOf "many" "Signs.many" (defArgs sMany) (defBody sMany) (defScope sMany) .none kVmMa dcmMa pmmMa anmMa cdmMa ctmMa) fun _ _ => rfl
  have nTL' : PT ≠ PL := fun z => by
    rw [z] at nTL
    simp at nTL
  refine ⟨PySem.W.fnOf "law" "law" (defArgs sLaw) (defBody sLaw) (defScope sLaw) .none kVLaw dcLaw pmLaw anLaw (.ref kLaw) ctLaw, [(kTol, PT), (kLaw, PL)], spLaw K [(PT, qTold), (PL, qLaw)], fun p hp => ?_, fun p hp => ?_, fun p hp => ?_, fun s u => .of_eq rfl, fun H a ns hl hH hS => ⟨a, ns, rfl, hS, hl, tabs_nil (cs := [(kTol, PT), (kLaw, PL)]) (fun p hp => ?_) hH, fun _ => rfl⟩, fun base _ _ TBs => ?_⟩
  · simp only [List.mem_cons, List.not_mem_nil, or_false] at hp
    rcases hp with rfl | rfl
    · exact hT _ mT
    · exact hT _ mL
  · simp only [List.mem_cons, List.not_mem_nil, or_false] at hp
    rcases hp with rfl | rfl
    · exact oT
    · exact oL
  · simp only [List.mem_cons, List.not_mem_nil, or_false] at hp
    rcases hp with rfl | rfl
    · exact PySem.W.codeHd_of_K X hdT
    · exact PySem.W.codeHd_of_K X hdL
  · simp only [List.mem_cons, List.not_mem_nil, or_false] at hp
    rcases hp with rfl | rfl
    · exact ⟨_, List.mem_cons_self, rfl⟩
    · exact ⟨_, List.mem_cons_of_mem _ List.mem_cons_self, rfl⟩
  · have DT := dfk (P := l.prog) (w := w) (base := base) (ok_take FTak FMix bMix gMix_ kMix_ Tx) gTak_ kTak_ bTak
    have DP := dfk (ok_pick FPic DT Bx) gPic_ kPic_ bPic
    have DW := dfk (ok_words FWor DT Bx) gWor_ kWor_ bWor
    have DB := dfk (P := l.prog) (w := w) (base := base) (ok_begun FBeg Tx) gBeg_ kBeg_ bBeg
    have DSo := dfk (ok_some FSom DT DP DW) gSom_ kSom_ bSom
    have DSp := dfk (ok_spoilt FSpo DT DP B) gSpo_ kSpo_ bSpo
    have DLN := dfk (P := l.prog) (w := w) (base := base) (ok_lname FLNa B) gLNa_ kLNa_ bLNa
    have DLS := dfk (ok_lsign FLSi DLN B) gLSi_ kLSi_ bLSi
    have DAR := dfk (ok_arerows FARo DLS) gARo_ kARo_ bARo
    have DAS := dfk (ok_aresigns FASi DAR B) gASi_ kASi_ bASi
    have Dnum := dfk (P := l.prog) (w := w) (base := base) (ok_num FNum B) gNum_ kNum_ bNum
    have Dlst := dfk (P := l.prog) (w := w) (base := base) (ok_list FLst B) gLst_ kLst_ bLst
    have Dsma := dfk (P := l.prog) (w := w) (base := base) (ok_small FSma B) gSma_ kSma_ bSma
    have Dnam := dfk (ok_name FNam Dsma B) gNam_ kNam_ bNam
    have Dsig := dfk (ok_sign FSig Dnam Dnum B) gSig_ kSig_ bSig
    have OI := ok_init FmIn Dlst Dsig B XN Gc
    have MR : Mt l.prog w K mg base CX0 C "rows" 1 ["self"] (spRows K C) := ⟨_, _, ok_rows FmRo B Gc, ⟨amRo, imRo, kmRo_⟩, bmRo⟩
    have MH : Mt l.prog w K mg base CX0 C "has" 1 ["self", "name"] (spHas K C) := ⟨_, _, ok_has FmHa B Gc, ⟨amHa, imHa, kmHa_⟩, bmHa⟩
    have MK : MtK l.prog w K mg base C "kind" (spAt K C CS 1) := ⟨_, _, ok_kind FmKi MH Gc NT hCS, ⟨amKi, imKi, kmKi_⟩, bmKi, kK⟩
    have MM : MtK l.prog w K mg base C "many" (spAt K C CS 2) := ⟨_, _, ok_many FmMa MH Gc NT hCS, ⟨amMa, imMa, kmMa_⟩, bmMa, kM⟩
    have ML : Ow l.prog w K mg base C "__len__" ["self"] (spLen K C) := ⟨_, _, ok_len FmLe B Gc, amLe, imLe, bmLe⟩
    have OE := ok_same (P := l.prog) (w := w) (base := base) FmEq B Gc GI hC
    have TBT := TBs (kTol, PT) List.mem_cons_self
    have TBL := TBs (kLaw, PL) (List.mem_cons_of_mem _ List.mem_cons_self)
    have uT : ∀ p ∈ [(PT, qTold), (PL, qLaw)], p.1 = PT → p.2 = qTold := fun p hp e => by
      simp only [List.mem_cons, List.not_mem_nil, or_false] at hp
      rcases hp with rfl | rfl
      · rfl
      · exact absurd e.symm nTL'
    have uL : ∀ p ∈ [(PT, qTold), (PL, qLaw)], p.1 = PL → p.2 = qLaw := fun p hp e => by
      simp only [List.mem_cons, List.not_mem_nil, or_false] at hp
      rcases hp with rfl | rfl
      · exact absurd e nTL'
      · rfl
    have OT := ok_told FTol FRef bRef gRef_ R B Gc DP MR MK MM ML TBT List.mem_cons_self uT
    have OA := ok_alike FAli B Gc GI hC M OI bmIn OE amEq imEq bmEq neC nF
    exact ok_law FLaw FRef bRef gRef_ R B Gc hC DB DT DSo DAR DSp DAS ⟨_, _, OT, gTol_, kTol_, bTol⟩ ⟨_, _, OA, gAli_, kAli_, bAli⟩ M OI bmIn kI MR TBL (List.mem_cons_of_mem _ List.mem_cons_self) uL
end K1
open PySem PySem.W PyProof.Rows
set_option Elab.async false
set_option maxRecDepth 100000 in
set_option maxHeartbeats 0 in
theorem PySem.Challenge.cw_termyard_k01_signs_made_holds : PySem.Challenge.rw_termyard_k01_signs_made.Holds := by
  w_on; o_law; k_head; (case hw => w_witness2)
  k_fill
  refine K1.walk_G (l := PySem.Challenge.rw_termyard_k01_signs_made) (n := 63) (k := 12) (x := "_law_script") rfl (by decide) rfl ⟨rfl, by decide, by decide⟩ (fun w h Y => PySem.W.km_in_of Y) ?F
  case F =>
    intro w mg fa h Y KX G hmg
    have hT8 := PySem.W.km_tabs_of Y
    refine' K1.all_mk (PT := 327) (PL := 337) KX G hmg hT8 ?q_gC ?q_gCN ?q_gCS ?q_gCT ?q_gc1 ?q_gc2 ?q_gc3 ?q_gc4 ?q_gc5 ?q_gc6 ?q_aNum ?q_lNum ?q_cNum ?q_kNum_ ?q_aLst ?q_lLst ?q_cLst ?q_kLst_ ?q_aSma ?q_lSma ?q_cSma ?q_kSma_ ?q_aNam ?q_lNam ?q_cNam ?q_kNam_ ?q_aSig ?q_lSig ?q_cSig ?q_kSig_ ?q_aBeg ?q_lBeg ?q_cBeg ?q_kBeg_ ?q_aMix ?q_lMix ?q_cMix ?q_kMix_ ?q_aTak ?q_lTak ?q_cTak ?q_kTak_ ?q_aPic ?q_lPic ?q_cPic ?q_kPic_ ?q_aWor ?q_lWor ?q_cWor ?q_kWor_ ?q_aLNa ?q_lLNa ?q_cLNa ?q_kLNa_ ?q_aRef ?q_lRef ?q_cRef ?q_kRef_ ?q_aSom ?q_lSom ?q_cSom ?q_kSom_ ?q_aSpo ?q_lSpo ?q_cSpo ?q_kSpo_ ?q_aLSi ?q_lLSi ?q_cLSi ?q_kLSi_ ?q_aARo ?q_lARo ?q_cARo ?q_kARo_ ?q_aASi ?q_lASi ?q_cASi ?q_kASi_ ?q_aTol ?q_lTol ?q_cTol ?q_kTol_ ?q_aAli ?q_lAli ?q_cAli ?q_kAli_ ?q_aLaw ?q_lLaw ?q_cLaw ?q_kLaw_ ?q_amIn ?q_imIn ?q_lmIn ?q_cmIn ?q_kmIn_ ?q_amRo ?q_imRo ?q_lmRo ?q_cmRo ?q_kmRo_ ?q_amHa ?q_imHa ?q_lmHa ?q_cmHa ?q_kmHa_ ?q_amKi ?q_imKi ?q_lmKi ?q_cmKi ?q_kmKi_ ?q_amMa ?q_imMa ?q_lmMa ?q_cmMa ?q_kmMa_ ?q_amLe ?q_imLe ?q_lmLe ?q_cmLe ?q_kmLe_ ?q_amEq ?q_imEq ?q_lmEq ?q_cmEq ?q_kmEq_ ?q_xSM ?q_xNL ?q_xMS ?q_xMP ?q_z_isinstance ?q_z_int ?q_z_bool ?q_z_str ?q_z_list ?q_z_tuple ?q_z_len ?q_z_all ?q_z_range ?q_z_repr ?q_z_dict ?q_z_ValueError ?q_z_super ?q_pg ?q_hd ?q_po ?q_sa ?q_nR ?q_nT ?q_mkC ?q_kpC ?q_neC ?q_qa ?q_qn ?q_qt ?q_qm ?q_qo ?q_qk_NoneType ?q_qf_NoneType ?q_qk_bool ?q_qf_bool ?q_qk_int ?q_qf_int ?q_qk_str ?q_qf_str ?q_qk_list ?q_qf_list ?q_qk_tuple ?q_qf_tuple ?q_qk_dict ?q_qf_dict ?q_xN ?q_kN ?q_sN ?q_tN ?q_xS ?q_rS ?q_aS ?q_saS ?q_nnS ?q_iiS ?q_ttI ?q_kkS ?q_exS ?q_veS ?q_mrS ?q_tyS ?q_oqS ?q_lfI ?q_cfI ?q_lcc ?q_lcd ?q_v2X ?q_flX ?q_tpX ?q_emN ?q_egN ?q_ekN ?q_edN ?q_eaN ?q_eoN ?q_e6N ?q_eVN ?q_emS ?q_egS ?q_ekS ?q_edS ?q_eaS ?q_eoS ?q_e6S ?q_eVS ?q_ynn ?q_yns ?q_ysn ?q_yss ?q_mT ?q_mL ?q_oT ?q_oL ?q_hdT ?q_hdL ?q_nTL
    (case q_gC => first | k_is | rfl | decide +kernel | k_exc)
    (case q_gCN => first | k_is | rfl | decide +kernel | k_exc)
    (case q_gCS => first | k_is | rfl | decide +kernel | k_exc)
    (case q_gCT => first | k_is | rfl | decide +kernel | k_exc)
    (case q_gc1 => first | k_is | rfl | decide +kernel | k_exc)
    (case q_gc2 => first | k_is | rfl | decide +kernel | k_exc)
    (case q_gc3 => first | k_is | rfl | decide +kernel | k_exc)
    (case q_gc4 => first | k_is | rfl | decide +kernel | k_exc)
    (case q_gc5 => first | k_is | rfl | decide +kernel | k_exc)
    (case q_gc6 => first | k_is | rfl | decide +kernel | k_exc)
    (case q_aNum => first | k_is | rfl | decide +kernel | k_exc)
    (case q_lNum => first | k_is | rfl | decide +kernel | k_exc)
    (case q_cNum => first | k_is | rfl | decide +kernel | k_exc)
    (case q_kNum_ => first | k_is | rfl | decide +kernel | k_exc)
    (case q_aLst => first | k_is | rfl | decide +kernel | k_exc)
    (case q_lLst => first | k_is | rfl | decide +kernel | k_exc)
    (case q_cLst => first | k_is | rfl | decide +kernel | k_exc)
    (case q_kLst_ => first | k_is | rfl | decide +kernel | k_exc)
    (case q_aSma => first | k_is | rfl | decide +kernel | k_exc)
    (case q_lSma => first | k_is | rfl | decide +kernel | k_exc)
    (case q_cSma => first | k_is | rfl | decide +kernel | k_exc)
    (case q_kSma_ => first | k_is | rfl | decide +kernel | k_exc)
    (case q_aNam => first | k_is | rfl | decide +kernel | k_exc)
    (case q_lNam => first | k_is | rfl | decide +kernel | k_exc)
    (case q_cNam => first | k_is | rfl | decide +kernel | k_exc)
    (case q_kNam_ => first | k_is | rfl | decide +kernel | k_exc)
    (case q_aSig => first | k_is | rfl | decide +kernel | k_exc)
    (case q_lSig => first | k_is | rfl | decide +kernel | k_exc)
    (case q_cSig => first | k_is | rfl | decide +kernel | k_exc)
    (case q_kSig_ => first | k_is | rfl | decide +kernel | k_exc)
    (case q_aBeg => first | k_is | rfl | decide +kernel | k_exc)
    (case q_lBeg => first | k_is | rfl | decide +kernel | k_exc)
    (case q_cBeg => first | k_is | rfl | decide +kernel | k_exc)
    (case q_kBeg_ => first | k_is | rfl | decide +kernel | k_exc)
    (case q_aMix => first | k_is | rfl | decide +kernel | k_exc)
    (case q_lMix => first | k_is | rfl | decide +kernel | k_exc)
    (case q_cMix => first | k_is | rfl | decide +kernel | k_exc)
    (case q_kMix_ => first | k_is | rfl | decide +kernel | k_exc)
    (case q_aTak => first | k_is | rfl | decide +kernel | k_exc)
    (case q_lTak => first | k_is | rfl | decide +kernel | k_exc)
    (case q_cTak => first | k_is | rfl | decide +kernel | k_exc)
    (case q_kTak_ => first | k_is | rfl | decide +kernel | k_exc)
    (case q_aPic => first | k_is | rfl | decide +kernel | k_exc)
    (case q_lPic => first | k_is | rfl | decide +kernel | k_exc)
    (case q_cPic => first | k_is | rfl | decide +kernel | k_exc)
    (case q_kPic_ => first | k_is | rfl | decide +kernel | k_exc)
    (case q_aWor => first | k_is | rfl | decide +kernel | k_exc)
    (case q_lWor => first | k_is | rfl | decide +kernel | k_exc)
    (case q_cWor => first | k_is | rfl | decide +kernel | k_exc)
    (case q_kWor_ => first | k_is | rfl | decide +kernel | k_exc)
    (case q_aLNa => first | k_is | rfl | decide +kernel | k_exc)
    (case q_lLNa => first | k_is | rfl | decide +kernel | k_exc)
    (case q_cLNa => first | k_is | rfl | decide +kernel | k_exc)
    (case q_kLNa_ => first | k_is | rfl | decide +kernel | k_exc)
    (case q_aRef => first | k_is | rfl | decide +kernel | k_exc)
    (case q_lRef => first | k_is | rfl | decide +kernel | k_exc)
    (case q_cRef => first | k_is | rfl | decide +kernel | k_exc)
    (case q_kRef_ => first | k_is | rfl | decide +kernel | k_exc)
    (case q_aSom => first | k_is | rfl | decide +kernel | k_exc)
    (case q_lSom => first | k_is | rfl | decide +kernel | k_exc)
    (case q_cSom => first | k_is | rfl | decide +kernel | k_exc)
    (case q_kSom_ => first | k_is | rfl | decide +kernel | k_exc)
    (case q_aSpo => first | k_is | rfl | decide +kernel | k_exc)
    (case q_lSpo => first | k_is | rfl | decide +kernel | k_exc)
    (case q_cSpo => first | k_is | rfl | decide +kernel | k_exc)
    (case q_kSpo_ => first | k_is | rfl | decide +kernel | k_exc)
    (case q_aLSi => first | k_is | rfl | decide +kernel | k_exc)
    (case q_lLSi => first | k_is | rfl | decide +kernel | k_exc)
    (case q_cLSi => first | k_is | rfl | decide +kernel | k_exc)
    (case q_kLSi_ => first | k_is | rfl | decide +kernel | k_exc)
    (case q_aARo => first | k_is | rfl | decide +kernel | k_exc)
    (case q_lARo => first | k_is | rfl | decide +kernel | k_exc)
    (case q_cARo => first | k_is | rfl | decide +kernel | k_exc)
    (case q_kARo_ => first | k_is | rfl | decide +kernel | k_exc)
    (case q_aASi => first | k_is | rfl | decide +kernel | k_exc)
    (case q_lASi => first | k_is | rfl | decide +kernel | k_exc)
    (case q_cASi => first | k_is | rfl | decide +kernel | k_exc)
    (case q_kASi_ => first | k_is | rfl | decide +kernel | k_exc)
    (case q_aTol => first | k_is | rfl | decide +kernel | k_exc)
    (case q_lTol => first | k_is | rfl | decide +kernel | k_exc)
    (case q_cTol => first | k_is | rfl | decide +kernel | k_exc)
    (case q_kTol_ => first | k_is | rfl | decide +kernel | k_exc)
    (case q_aAli => first | k_is | rfl | decide +kernel | k_exc)
    (case q_lAli => first | k_is | rfl | decide +kernel | k_exc)
    (case q_cAli => first | k_is | rfl | decide +kernel | k_exc)
    (case q_kAli_ => first | k_is | rfl | decide +kernel | k_exc)
    (case q_aLaw => first | k_is | rfl | decide +kernel | k_exc)
    (case q_lLaw => first | k_is | rfl | decide +kernel | k_exc)
    (case q_cLaw => first | k_is | rfl | decide +kernel | k_exc)
    (case q_kLaw_ => first | k_is | rfl | decide +kernel | k_exc)
    (case q_amIn => first | k_is | rfl | decide +kernel | k_exc)
    (case q_imIn => first | k_is | rfl | decide +kernel | k_exc)
    (case q_lmIn => first | k_is | rfl | decide +kernel | k_exc)
    (case q_cmIn => first | k_is | rfl | decide +kernel | k_exc)
    (case q_kmIn_ => first | k_is | rfl | decide +kernel | k_exc)
    (case q_amRo => first | k_is | rfl | decide +kernel | k_exc)
    (case q_imRo => first | k_is | rfl | decide +kernel | k_exc)
    (case q_lmRo => first | k_is | rfl | decide +kernel | k_exc)
    (case q_cmRo => first | k_is | rfl | decide +kernel | k_exc)
    (case q_kmRo_ => first | k_is | rfl | decide +kernel | k_exc)
    (case q_amHa => first | k_is | rfl | decide +kernel | k_exc)
    (case q_imHa => first | k_is | rfl | decide +kernel | k_exc)
    (case q_lmHa => first | k_is | rfl | decide +kernel | k_exc)
    (case q_cmHa => first | k_is | rfl | decide +kernel | k_exc)
    (case q_kmHa_ => first | k_is | rfl | decide +kernel | k_exc)
    (case q_amKi => first | k_is | rfl | decide +kernel | k_exc)
    (case q_imKi => first | k_is | rfl | decide +kernel | k_exc)
    (case q_lmKi => first | k_is | rfl | decide +kernel | k_exc)
    (case q_cmKi => first | k_is | rfl | decide +kernel | k_exc)
    (case q_kmKi_ => first | k_is | rfl | decide +kernel | k_exc)
    (case q_amMa => first | k_is | rfl | decide +kernel | k_exc)
    (case q_imMa => first | k_is | rfl | decide +kernel | k_exc)
    (case q_lmMa => first | k_is | rfl | decide +kernel | k_exc)
    (case q_cmMa => first | k_is | rfl | decide +kernel | k_exc)
    (case q_kmMa_ => first | k_is | rfl | decide +kernel | k_exc)
    (case q_amLe => first | k_is | rfl | decide +kernel | k_exc)
    (case q_imLe => first | k_is | rfl | decide +kernel | k_exc)
    (case q_lmLe => first | k_is | rfl | decide +kernel | k_exc)
    (case q_cmLe => first | k_is | rfl | decide +kernel | k_exc)
    (case q_kmLe_ => first | k_is | rfl | decide +kernel | k_exc)
    (case q_amEq => first | k_is | rfl | decide +kernel | k_exc)
    (case q_imEq => first | k_is | rfl | decide +kernel | k_exc)
    (case q_lmEq => first | k_is | rfl | decide +kernel | k_exc)
    (case q_cmEq => first | k_is | rfl | decide +kernel | k_exc)
    (case q_kmEq_ => first | k_is | rfl | decide +kernel | k_exc)
    (case q_xSM => first | k_is | rfl | decide +kernel | k_exc)
    (case q_xNL => first | k_is | rfl | decide +kernel | k_exc)
    (case q_xMS => first | k_is | rfl | decide +kernel | k_exc)
    (case q_xMP => first | k_is | rfl | decide +kernel | k_exc)
    (case q_z_isinstance => first | k_is | rfl | decide +kernel | k_exc)
    (case q_z_int => first | k_is | rfl | decide +kernel | k_exc)
    (case q_z_bool => first | k_is | rfl | decide +kernel | k_exc)
    (case q_z_str => first | k_is | rfl | decide +kernel | k_exc)
    (case q_z_list => first | k_is | rfl | decide +kernel | k_exc)
    (case q_z_tuple => first | k_is | rfl | decide +kernel | k_exc)
    (case q_z_len => first | k_is | rfl | decide +kernel | k_exc)
    (case q_z_all => first | k_is | rfl | decide +kernel | k_exc)
    (case q_z_range => first | k_is | rfl | decide +kernel | k_exc)
    (case q_z_repr => first | k_is | rfl | decide +kernel | k_exc)
    (case q_z_dict => first | k_is | rfl | decide +kernel | k_exc)
    (case q_z_ValueError => first | k_is | rfl | decide +kernel | k_exc)
    (case q_z_super => first | k_is | rfl | decide +kernel | k_exc)
    (case q_pg => first | k_is | rfl | decide +kernel | k_exc)
    (case q_hd => first | k_is | rfl | decide +kernel | k_exc)
    (case q_po => first | k_is | rfl | decide +kernel | k_exc)
    (case q_sa => first | k_is | rfl | decide +kernel | k_exc)
    (case q_nR => first | k_is | rfl | decide +kernel | k_exc)
    (case q_nT => first | k_is | rfl | decide +kernel | k_exc)
    (case q_mkC => first | k_is | rfl | decide +kernel | k_exc)
    (case q_kpC => first | k_is | rfl | decide +kernel | k_exc)
    (case q_neC => first | k_is | rfl | decide +kernel | k_exc)
    (case q_qa => first | k_is | rfl | decide +kernel | k_exc)
    (case q_qn => first | k_is | rfl | decide +kernel | k_exc)
    (case q_qt => first | k_is | rfl | decide +kernel | k_exc)
    (case q_qm => first | k_is | rfl | decide +kernel | k_exc)
    (case q_qo => first | k_is | rfl | decide +kernel | k_exc)
    (case q_qk_NoneType => first | k_is | rfl | decide +kernel | k_exc)
    (case q_qf_NoneType => first | k_is | rfl | decide +kernel | k_exc)
    (case q_qk_bool => first | k_is | rfl | decide +kernel | k_exc)
    (case q_qf_bool => first | k_is | rfl | decide +kernel | k_exc)
    (case q_qk_int => first | k_is | rfl | decide +kernel | k_exc)
    (case q_qf_int => first | k_is | rfl | decide +kernel | k_exc)
    (case q_qk_str => first | k_is | rfl | decide +kernel | k_exc)
    (case q_qf_str => first | k_is | rfl | decide +kernel | k_exc)
    (case q_qk_list => first | k_is | rfl | decide +kernel | k_exc)
    (case q_qf_list => first | k_is | rfl | decide +kernel | k_exc)
    (case q_qk_tuple => first | k_is | rfl | decide +kernel | k_exc)
    (case q_qf_tuple => first | k_is | rfl | decide +kernel | k_exc)
    (case q_qk_dict => first | k_is | rfl | decide +kernel | k_exc)
    (case q_qf_dict => first | k_is | rfl | decide +kernel | k_exc)
    (case q_xN => first | k_is | rfl | decide +kernel | k_exc)
    (case q_kN => first | k_is | rfl | decide +kernel | k_exc)
    (case q_sN => first | k_is | rfl | decide +kernel | k_exc)
    (case q_tN => first | k_is | rfl | decide +kernel | k_exc)
    (case q_xS => first | k_is | rfl | decide +kernel | k_exc)
    (case q_rS => first | k_is | rfl | decide +kernel | k_exc)
    (case q_aS => first | k_is | rfl | decide +kernel | k_exc)
    (case q_saS => first | k_is | rfl | decide +kernel | k_exc)
    (case q_nnS => first | k_is | rfl | decide +kernel | k_exc)
    (case q_iiS => first | k_is | rfl | decide +kernel | k_exc)
    (case q_ttI => first | k_is | rfl | decide +kernel | k_exc)
    (case q_kkS => first | k_is | rfl | decide +kernel | k_exc)
    (case q_exS => first | k_is | rfl | decide +kernel | k_exc)
    (case q_veS => first | k_is | rfl | decide +kernel | k_exc)
    (case q_mrS => first | k_is | rfl | decide +kernel | k_exc)
    (case q_tyS => first | k_is | rfl | decide +kernel | k_exc)
    (case q_oqS => first | k_is | rfl | decide +kernel | k_exc)
    (case q_lfI => first | k_is | rfl | decide +kernel | k_exc)
    (case q_cfI => first | k_is | rfl | decide +kernel | k_exc)
    (case q_lcc => first | k_is | rfl | decide +kernel | k_exc)
    (case q_lcd => first | k_is | rfl | decide +kernel | k_exc)
    (case q_v2X => first | k_is | rfl | decide +kernel | k_exc)
    (case q_flX => first | k_is | rfl | decide +kernel | k_exc)
    (case q_tpX => first | k_is | rfl | decide +kernel | k_exc)
    (case q_emN => first | k_is | rfl | decide +kernel | k_exc)
    (case q_egN => first | k_is | rfl | decide +kernel | k_exc)
    (case q_ekN => first | k_is | rfl | decide +kernel | k_exc)
    (case q_edN => first | k_is | rfl | decide +kernel | k_exc)
    (case q_eaN => first | k_is | rfl | decide +kernel | k_exc)
    (case q_eoN => first | k_is | rfl | decide +kernel | k_exc)
    (case q_e6N => first | k_is | rfl | decide +kernel | k_exc)
    (case q_eVN => first | k_is | rfl | decide +kernel | k_exc)
    (case q_emS => first | k_is | rfl | decide +kernel | k_exc)
    (case q_egS => first | k_is | rfl | decide +kernel | k_exc)
    (case q_ekS => first | k_is | rfl | decide +kernel | k_exc)
    (case q_edS => first | k_is | rfl | decide +kernel | k_exc)
    (case q_eaS => first | k_is | rfl | decide +kernel | k_exc)
    (case q_eoS => first | k_is | rfl | decide +kernel | k_exc)
    (case q_e6S => first | k_is | rfl | decide +kernel | k_exc)
    (case q_eVS => first | k_is | rfl | decide +kernel | k_exc)
    (case q_ynn => first | k_is | rfl | decide +kernel | k_exc)
    (case q_yns => first | k_is | rfl | decide +kernel | k_exc)
    (case q_ysn => first | k_is | rfl | decide +kernel | k_exc)
    (case q_yss => first | k_is | rfl | decide +kernel | k_exc)
    (case q_mT => first | k_is | rfl | decide +kernel | k_exc)
    (case q_mL => first | k_is | rfl | decide +kernel | k_exc)
    (case q_oT => first | k_is | rfl | decide +kernel | k_exc)
    (case q_oL => first | k_is | rfl | decide +kernel | k_exc)
    (case q_hdT => first | k_is | rfl | decide +kernel | k_exc)
    (case q_hdL => first | k_is | rfl | decide +kernel | k_exc)
    (case q_nTL => first | k_is | rfl | decide +kernel | k_exc)
