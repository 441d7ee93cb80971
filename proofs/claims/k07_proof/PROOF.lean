import PyProof.Rows.All
import Wide.All
import OpenK.AllK
import Wide.FinOn
import HandS.ForMost
import HandS.Wide
import HandS.Walk
import HandS.Flow
import HandS.Codes
import HandS.IsInst
import HandS.Deep
import HandS.Exc
import HandS.ExcOwn
import HandS.WordsExc
import KE.KExcSuper
import HandS.Ends
import HandS.SortKw
import HandS.ExcValue
import HandS.Lambda
import KE.SortKeyHeap
import KE.DataMinMax
import HandS.FStr
import HandS.Star
import HandS.TupAny
import PyProof.ReprRoads
import PyProof.Lay0
import HandS.EndTab
import HandS.Style
import KE.SortData
import HandS.Defaults
import HandS.Set
import HandS.SetFor
import HandS.SortInts
import PyProof.Rows.SortStr
import PyProof.Rows.SortKeyStr
import HandS.More
import KE.KNestM
import PySem.Challenge.RW_termyard_k07_whole_laid_by_any_road
set_option Elab.async false
set_option linter.all false
set_option maxRecDepth 100000
set_option maxHeartbeats 4000000
namespace K1
open PySem PySem.Spec PyProof.Rows L2
def topS (i : Nat) : Stmt := PySem.Challenge.pw_termyard_k07_whole_laid_by_any_road.main.body.getD i (.Pass ⟨0, 0, 0, 0⟩)
abbrev sBegun : Stmt := topS 52
abbrev sMixed : Stmt := topS 53
abbrev sTake : Stmt := topS 54
abbrev sPick : Stmt := topS 55
/-- the state's dict -/
def stK (g c : Addr) (r t : Int) : List (Key × V) := [(.inr "great", .ref g), (.inr "cells", .ref c), (.inr "rest", .int r), (.inr "turn", .int t)]
/-- what is drawn from stands at d: the great cells at g, all cells at c; at most t numbers were mixed -/
structure Gen (d g c : Addr) (t : Nat) (H : Hp) : Prop where
  ne : c ≠ g
  ex : ∃ (gs cs : List Int) (r : Int) (u : Nat), H d = some (.dK (stK g c r u)) ∧ H g = some (.lst (gs.map V.int)) ∧ H c = some (.lst (cs.map V.int)) ∧ u ≤ t
/-- all but d and g stand as they did -/
def Kp (d g : Addr) (H H' : Hp) : Prop := ∀ b o, b ≠ d → b ≠ g → H b = some o → H' b = some o
theorem Kp.refl {d g : Addr} {H : Hp} : Kp d g H H := fun _ _ _ _ h => h
theorem Kp.trans {d g : Addr} {H H1 H2 : Hp} (a : Kp d g H H1) (b : Kp d g H1 H2) : Kp d g H H2 := fun x o h1 h2 e => b x o h1 h2 (a x o h1 h2 e)
theorem Kp.of {d g : Addr} {H H1 : Hp} (a : Same H H1) : Kp d g H H1 := fun x o _ _ e => a x o e
theorem Kp.upd {d g p : Addr} {o : HO} {H H1 : Hp} (a : Kp d g H H1) (h : H p = none ∨ p = d ∨ p = g) : Kp d g H (upd H1 p o) := fun x u h1 h2 e => by
  by_cases hx : x = p
  · subst hx
    rcases h with h | h | h
    · rw [h] at e
      cases e
    · exact absurd h h1
    · exact absurd h h2
  · rw [upd_ne hx]
    exact a x u h1 h2 e
theorem Gen.mono {d g c : Addr} {t t' : Nat} {H : Hp} (G : Gen d g c t H) (h : t ≤ t') : Gen d g c t' H := by
  obtain ⟨n, gs, cs, r, u, e1, e2, e3, e4⟩ := G
  exact ⟨n, gs, cs, r, u, e1, e2, e3, Nat.le_trans e4 h⟩
theorem Gen.same {d g c : Addr} {t : Nat} {H H' : Hp} (G : Gen d g c t H) (s : Same H H') : Gen d g c t H' := by
  obtain ⟨n, gs, cs, r, u, e1, e2, e3, e4⟩ := G
  exact ⟨n, gs, cs, r, u, s _ _ e1, s _ _ e2, s _ _ e3, e4⟩
theorem Same.new {H H1 : Hp} {p : Addr} {o : HO} (a : Same H H1) (h : H1 p = none) : Same H (upd H1 p o) := fun x u e => by
  rw [upd_ne (ne_of_none (a x u e) h)]
  exact a x u e
theorem Gen.new {d g c p : Addr} {o : HO} {t : Nat} {H : Hp} (G : Gen d g c t H) (h : H p = none) : Gen d g c t (upd H p o) := G.same (Same.new (Same.refl H) h)
theorem Gen.free {d g c : Addr} {t t' : Nat} {H H' : Hp} (G : Gen d g c t H) (G' : Gen d g c t' H') (k : Kp d g H H') {p : Addr} (h : H' p = none) : H p = none := by
  cases q : H p with
  | none => rfl
  | some o =>
    obtain ⟨_, _, _, _, _, e1, e2, _⟩ := G'
    have h1 : p ≠ d := fun z => by rw [z, e1] at h; cases h
    have h2 : p ≠ g := fun z => by rw [z, e2] at h; cases h
    rw [k p o h1 h2 q] at h
    cases h

theorem pow10_18 : CPow 10 18 := ⟨by decide, by decide, by decide⟩
theorem stK_merge (g c : Addr) : mergeK [] (stK g c 0 0) = stK g c 0 0 := by
  rfl
def spBegun (K : PySem.W.Frag) : Sp := fun vs H Q _ => ∃ (a : Addr) (ns : List Int), vs = [.ref a] ∧ SqL K H a (ns.map V.int) ∧ ns.length ≤ 63 ∧
  ∀ (d g c : Addr) (H' : Hp), Gen d g c 0 H' → Same H H' → H d = none → H g = none → Q (.ref d) H'
def spMixed : Sp := fun vs H Q _ => ∃ (d g c : Addr) (t : Nat), vs = [.ref d] ∧ Gen d g c t H ∧ t < 2 ^ 30 ∧
  ∀ (v : Int) (H' : Hp), Gen d g c (t + 1) H' → Kp d g H H' → Q (.int v) H'
def spTake : Sp := fun vs H Q _ => ∃ (d g c : Addr) (t : Nat) (n : Int), vs = [.ref d, .int n] ∧ Gen d g c t H ∧ t < 2 ^ 30 ∧ 0 < n ∧ n < 2 ^ 60 ∧
  ∀ (v : Int) (H' : Hp), 0 ≤ v → v < n → Gen d g c (t + 1) H' → Kp d g H H' → Q (.int v) H'
/-- the built-ins that the text leaves alone -/
structure Txt (mg : Str → Option Value) : Prop where
  list : mg "list" = none
section
variable {P : Program} {w : World} {K : PySem.W.Frag} {mg : Str → Option Value} {base : Heap}
theorem scBegun : FnScope ["_law_script", "_law_wide", "_law_cell"] ["_law_script"] (defScope sBegun) := ⟨rfl, rfl, rfl, by decide +kernel, rfl, by decide +kernel, by decide +kernel⟩
theorem ok_begun {f : Addr} {fd : FuncData} (F : Fun K "_law_begun" "_law_begun" sBegun f fd) (T : Txt mg) : FnOk P w K mg base CX0 1 f fd ["_law_script"] (spBegun K) := by
  refine F.ok scBegun (fun vs H Q E h => ?_) (fun cdv A outer s H vs Q E hr h => ?_)
  · obtain ⟨a, ns, rfl, _⟩ := h
    rfl
  · obtain ⟨a, ns, rfl, hS, hl, k⟩ := h
    refine ⟨_, pss_cons (ps_setLc (i := 1) (own := [("_law_cell", 2)]) (g := gName 2) rfl scBegun.nd rfl rfl (sw_true rfl rfl rfl (by decide +kernel)) (pi_list (pv 0)) (blkOk_by (N := ["_law_script", "_law_wide", "_law_cell"]) (sc := defScope sBegun) (by decide +kernel))
        (fun _ _ _ _ _ => pg_name (i := 2) scBegun.nd rfl (Or.inl rfl)) (fun _ _ _ _ _ => pts_one (pt_cmpR op_ge (pv 2) (pe_op op_pow pe_int pe_int) (nomark _))) (fun _ _ _ _ _ => pe_op op_sub (pv 2) (pe_op op_pow pe_int pe_int)))
      (pss_one (ps_ret (pe_disp (pps_cons pe_str (pv 1) (pps_cons pe_str (pe_callTy call_list_of (by rfl) T.list (by decide +kernel) (pa_cons (pv 0) pa_nil)) (pps_cons pe_str pe_int (pps_cons pe_str pe_int pps_nil)))) (by rfl) (by rfl) (fun z => by cases z) (by decide)))), ?_⟩
    refine ⟨_, rfl, a, rfl, ⟨_, hS⟩, fun D hD => lc_list (K := K) (a := a) (xs := ns.map V.int) (fun i H' => ∃ gs : List Int, Same H H' ∧ H' D = some (.lst (gs.map V.int)) ∧ gs.length ≤ i)
      ⟨[], Same.new (Same.refl H) hD, upd_same, Nat.le_refl _⟩ (fun i H' _ ⟨_, s1, _⟩ => s1.seq hS) ?_ ?_⟩
    · rintro i x H' hi ⟨gs, s1, e1, l1⟩
      have hil := (List.getElem?_eq_some_iff.mp hi).1
      rw [List.length_map] at hil
      obtain ⟨z, rfl⟩ : ∃ z, x = V.int z := by
        rw [List.getElem?_map] at hi
        cases e : ns[i]? with
        | none => rw [e] at hi; cases hi
        | some z => rw [e] at hi; exact ⟨z, (Option.some.inj hi).symm⟩
      refine ⟨rfl, ?_⟩
      refine ⟨_, rfl, _, _, rfl, rfl, pow10_18, _, _, rfl, rfl, _, rfl, ?_⟩
      refine ite2 (fun _ => ?_) (fun _ => ?_)
      · refine ⟨_, rfl, _, _, rfl, rfl, pow10_18, _, _, rfl, rfl, gs.map V.int, e1, (by rw [List.length_map, sizeLine_eq]; omega), gs ++ [z - 10 ^ Int.toNat 18], ?_, ?_, ?_⟩
        · exact fun b o e => by
            rw [upd_ne (fun z => by rw [z, hD] at e; cases e)]
            exact s1 b o e
        · rw [upd_same, List.map_append]
          rfl
        · rw [List.length_append]
          exact Nat.succ_le_succ l1
      · exact ⟨gs, s1, e1, Nat.le_succ_of_le l1⟩
    · rintro H' ⟨gs, s1, e1, l1⟩
      intro p hp
      refine ⟨_, rfl, ⟨_, rfl, a, _, rfl, .inl ((Same.new s1 hp).seq hS), fun l hl => ⟨?_, stK D l 0 0, rfl, (by show 4 ≤ 15; decide), ?_⟩⟩⟩
      · rw [upd_ne (fun z => by rw [z, upd_same] at hl; cases hl), upd_same]
      · rw [stK_merge]
        have npD : D ≠ p := ne_of_none e1 hp
        have nlp : p ≠ l := fun z => by rw [z, upd_same] at hl; cases hl
        have nlD : l ≠ D := fun z => by rw [z, upd_ne npD, e1] at hl; cases hl
        have hl' : H' l = none := by rw [upd_ne nlp.symm] at hl; exact hl
        have s2 : Same H (upd (upd (upd H' p (.dK [])) l (.lst (ns.map V.int))) p (.dK (stK D l 0 0))) := fun b o e => by
          have e' := s1 b o e
          rw [upd_ne (ne_of_none e' hp), upd_ne (ne_of_none e' hl'), upd_ne (ne_of_none e' hp)]
          exact e'
        refine k p D l _ ⟨nlD, gs, ns, 0, 0, upd_same, ?_, ?_, Nat.le_refl _⟩ s2 (Same.free s1 hp) hD
        · rw [upd_ne npD, upd_ne nlD.symm, upd_ne npD]
          exact e1
        · rw [upd_ne nlp.symm, upd_same]

def primes : List Int := [2147483629, 2147483587, 2147483579, 2147483563, 2147483549, 2147483543]
theorem primes_ok : ∀ z ∈ primes, 0 < z ∧ z < 2147483648 := by decide
theorem map_at {ns : List Int} {i : Nat} {x : V} (hi : (ns.map V.int)[i]? = some x) : ∃ z, ns[i]? = some z ∧ x = V.int z := by
  rw [List.getElem?_map] at hi
  cases e : ns[i]? with
  | none => rw [e] at hi; cases hi
  | some z => rw [e] at hi; exact ⟨z, rfl, (Option.some.inj hi).symm⟩
theorem stK_turn (g c : Addr) (r t : Int) : valV (stK g c r t) (Sum.inr "turn" : Key) = some (.int t) := rfl
theorem stK_rest (g c : Addr) (r t : Int) : valV (stK g c r t) (Sum.inr "rest" : Key) = some (.int r) := rfl
theorem stK_great (g c : Addr) (r t : Int) : valV (stK g c r t) (Sum.inr "great" : Key) = some (.ref g) := rfl
theorem stK_cells (g c : Addr) (r t : Int) : valV (stK g c r t) (Sum.inr "cells" : Key) = some (.ref c) := rfl
theorem stK_turn' (g c : Addr) (r t y : Int) : putK (stK g c r t) (Sum.inr "turn" : Key) (.int y) = stK g c r y := rfl
theorem stK_rest' (g c : Addr) (r t y : Int) : putK (stK g c r t) (Sum.inr "rest" : Key) (.int y) = stK g c y t := rfl
theorem scMixed : FnScope ["_law_state", "_law_turn", "_law_found", "_law_prime", "_law_blend", "_law_cell"] ["_law_state"] (defScope sMixed) := ⟨rfl, rfl, rfl, by decide +kernel, rfl, by decide +kernel, by decide +kernel⟩
theorem ok_mixed {f : Addr} {fd : FuncData} (F : Fun K "_law_mixed" "_law_mixed" sMixed f fd) (T : Txt mg) : FnOk P w K mg base CX0 1 f fd ["_law_state"] spMixed := by
  refine F.ok scMixed (fun vs H Q E h => ?_) (fun cdv A outer s H vs Q E hr h => ?_)
  · obtain ⟨d, g, c, t, rfl, _⟩ := h
    rfl
  · obtain ⟨d, g, c, t, rfl, G, ht, k⟩ := h
    obtain ⟨ncg, gs, cs, r, u, e1, e2, e3, hu⟩ := G
    have hu' := hu_of hr
    refine ⟨_, pss_cons (ps_set (i := 1) scMixed.nd rfl (Or.inl rfl) (pe_op op_add (pe_dget hu' (pv 0) pe_str (fun _ _ => rfl)) pe_int))
      (pss_cons (ps_dput hu' (pv 0) pe_str (pv 1) rfl)
      (pss_cons (ps_set (i := 2) scMixed.nd rfl (Or.inl rfl) pe_int)
      (pss_cons (ps_for PassesOwn.never rfl (pi_list (pe_lst (pa_cons pe_int (pa_cons pe_int (pa_cons pe_int (pa_cons pe_int (pa_cons pe_int (pa_cons pe_int pa_nil)))))))) (pg_name (i := 3) scMixed.nd rfl (Or.inl rfl))
        (pss_cons (ps_set (i := 4) scMixed.nd rfl (Or.inl rfl) (pe_op op_add (pe_op op_mul pe_int (pv 1)) (pe_op op_fdiv (pv 3) pe_int)))
        (pss_cons (ps_for PassesOwn.never rfl (pi_list (pe_dget hu' (pv 0) pe_str (fun _ _ => rfl))) (pg_name (i := 5) scMixed.nd rfl (Or.inl rfl))
          (pss_one (ps_set (i := 4) scMixed.nd rfl (Or.inl rfl) (pe_op op_mod (pe_op op_add (pe_op op_mul (pv 4) pe_int) (pv 5)) (pv 3)))))
        (pss_one (ps_set (i := 2) scMixed.nd rfl (Or.inl rfl) (pe_op op_add (pe_op op_mul (pv 2) pe_int) (pe_op op_mod (pe_op op_pow (pv 4) pe_int) (pv 3))))))))
      (pss_one (ps_ret (pv 2)))))), ?_⟩
    refine ⟨_, rfl, d, _, rfl, DGet.k (k := Sum.inr "turn") e1, _, _, rfl, rfl, ?_⟩
    refine ⟨_, rfl, _, rfl, d, _, rfl, DPut.k (k := Sum.inr "turn") e1 (by show 4 < sizeLine; decide), ?_⟩
    rw [stK_turn']
    refine ⟨(by show 6 ≤ sizeLine; decide), fun p hp => ?_⟩
    have hdg : g ≠ d := ne_of e2 e1 (by intro z; cases z)
    have hdc : c ≠ d := ne_of e3 e1 (by intro z; cases z)
    have fin : ∀ (v : Int) (H' : Hp), Same (upd (upd H d (.dK (stK g c r (u + 1)))) p (.lst (primes.map V.int))) H' → Q (.int v) H' := fun v H' sm => by
      have npd : ∀ b o, upd H d (.dK (stK g c r (u + 1))) b = some o → H' b = some o := fun b o e => sm b o (by rw [upd_ne (ne_of_none e hp)]; exact e)
      refine k v H' ⟨ncg, gs, cs, r, u + 1, npd _ _ upd_same, npd _ _ (by rw [upd_ne hdg]; exact e2), npd _ _ (by rw [upd_ne hdc]; exact e3), Nat.succ_le_succ hu⟩ fun b o h1 h2 e => npd b o (by rw [upd_ne h1]; exact e)
    refine ⟨p, rfl, ⟨_, SqL.of (xs := primes.map V.int) upd_same⟩, for_list (K := K) (a := p) (xs := primes.map V.int)
      (fun i σ H' => ∃ (fnd : Int) (v3 v4 v5 : Option V), σ = [some (.ref d), some (.int (u + 1)), some (.int fnd), v3, v4, v5] ∧ Same (upd (upd H d (.dK (stK g c r (u + 1)))) p (.lst (primes.map V.int))) H')
      ⟨0, none, none, none, rfl, Same.refl _⟩ (fun i σ H' _ ⟨_, _, _, _, _, sm⟩ => sm.seq (SqL.of upd_same)) ?_ ?_⟩
    · rintro i x σ H' hi ⟨fnd, v3, v4, v5, rfl, sm⟩
      obtain ⟨pr, hpr, rfl⟩ := map_at hi
      obtain ⟨p0, p1⟩ := primes_ok pr (List.mem_of_getElem? hpr)
      have npd : ∀ b o, upd H d (.dK (stK g c r (u + 1))) b = some o → H' b = some o := fun b o e => sm b o (by rw [upd_ne (ne_of_none e hp)]; exact e)
      refine ⟨_, rfl, _, _, rfl, rfl, .inl (by constructor <;> decide), _, rfl, _, _, rfl, rfl, ⟨by decide, by decide⟩, _, _, rfl, rfl, ?_⟩
      refine ⟨_, rfl, d, _, rfl, DGet.k (k := Sum.inr "cells") (npd _ _ upd_same), c, rfl, ⟨_, SqL.of (xs := cs.map V.int) (npd _ _ (by rw [upd_ne hdc]; exact e3))⟩, for_list (K := K) (a := c) (xs := cs.map V.int)
        (fun j σ H2 => ∃ (b : Int) (v5 : Option V), σ = [some (.ref d), some (.int (u + 1)), some (.int fnd), some (.int pr), some (.int b), v5] ∧ H2 = H' ∧ 0 ≤ b ∧ b < 2 ^ 50)
        ⟨_, _, rfl, rfl, ?_, ?_⟩ (fun j σ H2 _ ⟨_, _, _, z, _⟩ => by rw [z]; exact SqL.of (npd _ _ (by rw [upd_ne hdc]; exact e3))) ?_ ?_⟩
      · omega
      · omega
      · rintro j y σ H2 hj ⟨b, v5', rfl, rfl, b0, b1⟩
        obtain ⟨cell, _, rfl⟩ := map_at hj
        refine ⟨_, rfl, _, _, rfl, rfl, .inr (by constructor <;> decide), _, rfl, _, _, rfl, rfl, _, rfl, _, _, rfl, rfl, p0, ?_⟩
        exact ⟨_, _, rfl, rfl, Int.emod_nonneg _ (by omega), Int.lt_trans (Int.emod_lt_of_pos _ p0) (by omega)⟩
      · rintro σ H2 ⟨b, v5', rfl, rfl, b0, b1⟩
        refine ⟨_, rfl, _, _, rfl, rfl, .inr (by constructor <;> decide), _, rfl, _, _, rfl, rfl, ⟨by decide, by decide, by omega⟩, _, rfl, _, _, rfl, rfl, p0, _, _, rfl, rfl, ?_⟩
        exact ⟨_, _, _, _, rfl, sm⟩
    · rintro σ H' ⟨fnd, v3, v4, v5, rfl, sm⟩
      exact ⟨_, rfl, fin _ _ sm⟩

theorem dp_ints (K : PySem.W.Frag) (H : Hp) : ∀ gs : List Int, DpAll K H (gs.map V.int) (gs.map PyData.int)
  | [] => .nil
  | z :: r => .cons (.int z) (dp_ints K H r)
theorem lay_ints : ∀ gs : List Int, PyData.canLayAll0 (gs.map PyData.int) = true
  | [] => rfl
  | z :: r => by
    have ih := lay_ints r
    simpa [PyData.canLayAll0, PyData.canLay0] using ih
theorem depth_ints : ∀ gs : List Int, PyData.depthAll (gs.map PyData.int) ≤ 1
  | [] => by simp [PyData.depthAll]
  | z :: r => by
    have ih := depth_ints r
    simp [PyData.depthAll, PyData.depth] at ih ⊢
    omega
theorem shaped_ints (gs : List Int) : SeqAt.shaped (.list (gs.map PyData.int)) = true := by
  unfold SeqAt.shaped
  rw [Bool.and_eq_true]
  refine ⟨?_, ?_⟩
  · simpa [PyData.canLay0] using lay_ints gs
  · have := depth_ints gs
    simp [PyData.depth]
    omega

theorem seq0 (n : Nat) : seqIndex? 0 (n + 1) = some 0 := by
  unfold seqIndex?
  simp
theorem eqv_ints_nil (gs : List Int) : PyData.eqv (.list (gs.map PyData.int)) (.list []) = gs.isEmpty := by
  cases gs <;> rfl
theorem scTake : FnScope ["_law_state", "_law_size", "_law_found"] ["_law_state", "_law_size"] (defScope sTake) := ⟨rfl, rfl, rfl, by decide +kernel, rfl, by decide +kernel, by decide +kernel⟩
theorem ok_take {f fM : Addr} {fd fdM : FuncData} (F : Fun K "_law_take" "_law_take" sTake f fd) (FM : Fun K "_law_mixed" "_law_mixed" sMixed fM fdM) (bM : Binds K fdM ["_law_state"] []) (gM : mg "_law_mixed" = some (.ref fM)) (kM : PySem.W.keepIn K (.ref fM) = true) (T : Txt mg) : FnOk P w K mg base CX0 2 f fd ["_law_state", "_law_size"] spTake := by
  have GM : FnOk P w K mg base CX0 1 fM fdM ["_law_state"] spMixed := ok_mixed FM T
  refine F.ok scTake (fun vs H Q E h => ?_) (fun cdv A outer s H vs Q E hr h => ?_)
  · obtain ⟨d, g, c, t, n, rfl, _⟩ := h
    rfl
  · obtain ⟨d, g, c, t, n, rfl, G, ht, n0, n1, k⟩ := h
    obtain ⟨ncg, gs, cs, r, u, e1, e2, e3, hu⟩ := id G
    have hu' := hu_of hr
    refine ⟨_, pss_cons (ps_if (PW.pt (pw_and (pt_cmpR op_eq (pe_dget hu' (pv 0) pe_str (fun _ _ => rfl)) pe_int (nomark _)) (pw_and1 (pt_cmpR (op_neD hr.units) (pe_dget hu' (pv 0) pe_str (fun _ _ => rfl)) (pe_lst pa_nil) (nomark _)))))
        (pss_one (ps_dput hu' (pv 0) pe_str (pe_bm PySem.F.plainAttrs_list PySem.F.slot_list_pop PySem.F.type_list_pop mt_popAt (pe_dget hu' (pv 0) pe_str (fun _ _ => rfl)) (pa_cons pe_int pa_nil)) rfl))
        (pss_one (ps_if (pt_cmpR op_eq (pe_dget hu' (pv 0) pe_str (fun _ _ => rfl)) pe_int (nomark _))
          (pss_one (ps_dput hu' (pv 0) pe_str (pe_call GM hr rfl gM kM bM .nil pass0 (pa_cons (pv 0) pa_nil)) rfl)) pss_nil)))
      (pss_cons (ps_set (i := 2) scTake.nd rfl (Or.inl rfl) (pe_op op_mod (pe_dget hu' (pv 0) pe_str (fun _ _ => rfl)) (pv 1)))
      (pss_cons (ps_dput hu' (pv 0) pe_str (pe_op op_fdivW (pe_dget hu' (pv 0) pe_str (fun _ _ => rfl)) (pv 1)) rfl)
      (pss_one (ps_ret (pv 2))))), ?_⟩
    -- what stands behind the if
    have last : ∀ (t' : Nat) (H' : Hp), t' ≤ t + 1 → Gen d g c t' H' → Kp d g H H' → ∀ σ : L2.St, σ = [some (.ref d), some (.int n), none] → tSeq (tAsg (tOp (rI (fun _ j => 0 < j) fun i j => .int (i % j)) (tDGet (tVar 0) (tC (.str "rest"))) (tVar 1)) (gName 2)) (tSeq (sDPut (tVar 0) (tC (.str "rest")) (tOp (rI CDivW fun i j => .int (i / j)) (tDGet (tVar 0) (tC (.str "rest"))) (tVar 1))) (tRet (tVar 2))) { nx := fun _ H' => Q .non H', rt := Q } σ H' := by
      rintro t' H' ht' ⟨ncg, gs, cs, r, u, e1, e2, e3, hu⟩ kp σ rfl
      refine ⟨_, rfl, d, _, rfl, DGet.k (k := Sum.inr "rest") e1, _, rfl, _, _, rfl, rfl, n0, ?_⟩
      refine ⟨_, rfl, d, _, rfl, DGet.k (k := Sum.inr "rest") e1, _, rfl, _, _, rfl, rfl, wide_div (b := 60) n0 (by omega) (by decide) (by decide), _, rfl, d, _, rfl, DPut.k (k := Sum.inr "rest") e1 (by show 4 < sizeLine; decide), ?_⟩
      rw [stK_rest']
      have hdg : g ≠ d := ne_of e2 e1 (by intro z; cases z)
      have hdc : c ≠ d := ne_of e3 e1 (by intro z; cases z)
      refine ⟨_, rfl, k _ _ (Int.emod_nonneg _ (by omega)) (Int.emod_lt_of_pos _ n0) ⟨ncg, gs, cs, _, u, upd_same, by rw [upd_ne hdg]; exact e2, by rw [upd_ne hdc]; exact e3, Nat.le_trans hu ht'⟩ (kp.upd (.inr (.inl rfl)))⟩
    refine ⟨_, rfl, d, _, rfl, DGet.k (k := Sum.inr "rest") e1, rfl, _, rfl, ?_⟩
    have hn2 : ∀ p, H p = none → ∀ o, Same H (upd H p o) := fun p hp o => Same.new (Same.refl H) hp
    have tail2 : ∀ (H1 : Hp), Same H H1 → (decide (V.int r = V.int 0) = true ∨ ¬ decide (V.int r = V.int 0) = true) →
        tIfS (tTest (tOp rEq (tDGet (tVar 0) (tC (.str "rest"))) (tC (.int 0)))) (sDPut (tVar 0) (tC (.str "rest")) (tCall spMixed [] E0 (tCons (tVar 0) tNil))) tNext
          { nx := tSeq (tAsg (tOp (rI (fun _ j => 0 < j) fun i j => .int (i % j)) (tDGet (tVar 0) (tC (.str "rest"))) (tVar 1)) (gName 2)) (tSeq (sDPut (tVar 0) (tC (.str "rest")) (tOp (rI CDivW fun i j => .int (i / j)) (tDGet (tVar 0) (tC (.str "rest"))) (tVar 1))) (tRet (tVar 2))) { nx := fun _ H' => Q .non H', rt := Q }, rt := Q }
          [some (.ref d), some (.int n), none] H1 := by
      intro H1 s1 hc
      refine ⟨_, rfl, d, _, rfl, DGet.k (k := Sum.inr "rest") (s1 _ _ e1), rfl, _, rfl, ?_⟩
      refine ite2 (fun _ => ?_) (fun _ => ?_)
      · refine ⟨_, rfl, d, g, c, t, rfl, G.same s1, ht, fun v H2 G2 k2 => ?_⟩
        obtain ⟨_, gs2, cs2, r2, u2, a1, a2, a3, a4⟩ := id G2
        have hdg : g ≠ d := ne_of a2 a1 (by intro z; cases z)
        have hdc : c ≠ d := ne_of a3 a1 (by intro z; cases z)
        refine ⟨_, rfl, d, _, rfl, DPut.k (k := Sum.inr "rest") a1 (by show 4 < sizeLine; decide), ?_⟩
        rw [stK_rest']
        exact last (t + 1) _ (Nat.le_refl _) ⟨ncg, gs2, cs2, _, u2, upd_same, by rw [upd_ne hdg]; exact a2, by rw [upd_ne hdc]; exact a3, a4⟩ (((Kp.of s1).trans k2).upd (.inr (.inl rfl))) _ rfl
      · exact last t H1 (Nat.le_succ _) (G.same s1) (Kp.of s1) _ rfl
    refine ite2 (fun _ => ?_) (fun hc => ?_)
    · refine ⟨_, rfl, d, _, rfl, DGet.k (k := Sum.inr "great") e1, (by show 0 ≤ sizeLine; decide), fun p hp => ⟨.list (gs.map PyData.int), .list [], Dp.lst (SqL.of (hn2 p hp _ _ _ e2)) (dp_ints _ _ gs), Dp.lst (SqL.of upd_same) .nil, shaped_ints gs, by decide, _, rfl, ?_⟩⟩
      have s1 := hn2 p hp (.lst [])
      rw [eqv_ints_nil]
      cases gs with
      | nil => exact iteF (tail2 _ s1 (Decidable.em _))
      | cons z gs =>
        refine iteT ?_
        have hdg : g ≠ d := ne_of e2 e1 (by intro z; cases z)
        have hdc : c ≠ d := ne_of e3 e1 (by intro z; cases z)
        refine ⟨_, rfl, d, _, rfl, DGet.k (k := Sum.inr "great") (s1 _ _ e1), .inl ⟨rfl, _, SqL.of (s1 _ _ e2)⟩, g, _, 0, 0, .int z, rfl, rfl, s1 _ _ e2, by decide, by decide, seq0 _, rfl, ?_⟩
        refine ⟨_, rfl, d, _, rfl, DPut.k (k := Sum.inr "rest") (by rw [upd_ne hdg.symm]; exact s1 _ _ e1) (by show 4 < sizeLine; decide), ?_⟩
        rw [stK_rest']
        exact last t _ (Nat.le_succ _) ⟨ncg, gs, cs, _, u, upd_same, by rw [upd_ne hdg, upd_same]; rfl, by rw [upd_ne hdc, upd_ne ncg]; exact s1 _ _ e3, hu⟩ (((Kp.of s1).upd (.inr (.inr rfl))).upd (.inr (.inl rfl))) _ rfl
    · exact tail2 H (Same.refl H) (Decidable.em _)
end
end K1
set_option Elab.async false
set_option linter.all false
set_option maxRecDepth 100000
set_option maxHeartbeats 4000000
namespace K1
open PySem PySem.Spec PyProof.Rows L2
def isLow (c : Nat) : Bool := decide (97 ≤ c ∧ c ≤ 122)
def nameB (w : Str) : Bool := decide (1 ≤ w.length ∧ w.length ≤ 8) && w.cps.toList.all isLow
def ownW : List Str := Txt.split (Str.ofString "stay none turn any then else not often part parts plan row heap pair plain fill" ++ Str.ofString " same over tell try rest is one some lift run lead skip low high") " "
theorem ownW_ok : ∀ w ∈ ownW, nameB w = true := by decide +kernel
theorem ownW_len : 0 < ownW.length ∧ ownW.length ≤ 40 := by decide +kernel
abbrev abc : Str := Str.ofString "abcdefghijklmnopqrstuvwxyz"
theorem abc_l : abc.cps.toList = (List.range 26).map (· + 97) := by decide +kernel
theorem abc_len : abc.length = 26 := by decide +kernel
theorem abc_low : ∀ c ∈ abc.cps.toList, isLow c = true := by decide +kernel
theorem len_toList (w : Str) : w.cps.toList.length = w.length := by
  simp [Str.length]
theorem app_l (a b : Str) : (a ++ b).cps.toList = a.cps.toList ++ b.cps.toList := by
  show (a.cps ++ b.cps).toList = _
  simp
theorem ext_l {a b : Str} (h : a.cps.toList = b.cps.toList) : a = b := by
  cases a with
  | mk x =>
    cases b with
    | mk y =>
      have : x = y := by
        have h' : x.toList = y.toList := h
        exact Array.toList_inj.mp h'
      rw [this]
/-- a word made otherwise: its first six letters, z, one more -/
def cand (w : Str) (c : Nat) : Str := (cutS w none (some 6) ++ Str.ofString "z") ++ ⟨#[c]⟩
theorem z_l : (Str.ofString "z").cps.toList = [122] := by decide +kernel
theorem cand_l (w : Str) (c : Nat) : (cand w c).cps.toList = w.cps.toList.take 6 ++ [122, c] := by
  unfold cand
  rw [app_l, app_l, z_l]
  have h : (cutS w none (some 6)).cps.toList = w.cps.toList.take 6 := by
    have e1 : HT.sIx w.length 0 none = 0 := rfl
    have e2 : HT.sIx w.length w.length (some 6) = min 6 w.length := by
      simp [HT.sIx]
    show ((w.cps.toList.drop (HT.sIx w.length 0 none)).take (HT.sIx w.length w.length (some 6) - HT.sIx w.length 0 none)).toArray.toList = _
    rw [e1, e2]
    simp only [List.drop_zero, Nat.sub_zero]
    rw [← len_toList w]
    by_cases hl : 6 ≤ w.cps.toList.length
    · rw [Nat.min_eq_left hl]
    · rw [Nat.min_eq_right (by omega), List.take_of_length_le (Nat.le_refl _), List.take_of_length_le (by omega)]
  rw [h]
  simp
theorem cand_inj {w : Str} {c c' : Nat} (h : cand w c = cand w c') : c = c' := by
  have e : (cand w c).cps.toList = (cand w c').cps.toList := by rw [h]
  rw [cand_l, cand_l] at e
  have e2 := List.append_cancel_left e
  simpa using e2
theorem cand_name {w : Str} {c : Nat} (h : nameB w = true) (hc : isLow c = true) : nameB (cand w c) = true := by
  unfold nameB at h ⊢
  rw [Bool.and_eq_true] at h ⊢
  obtain ⟨h1, h2⟩ := h
  have el := len_toList (cand w c)
  rw [cand_l] at el ⊢
  refine ⟨?_, ?_⟩
  · rw [decide_eq_true_iff, ← el]
    simp
    omega
  · rw [List.all_append, Bool.and_eq_true]
    refine ⟨?_, ?_⟩
    · rw [List.all_eq_true] at h2 ⊢
      exact fun x hx => h2 x (List.mem_of_mem_take hx)
    · show (isLow 122 && (isLow c && true)) = true
      rw [hc]
      rfl
/-- of more than there are in the list, unlike ones, one is not in it -/
theorem out_of {α : Type} [DecidableEq α] : ∀ (l m : List α), l.Nodup → (∀ x ∈ l, x ∈ m) → l.length ≤ m.length
  | [], m, _, _ => Nat.zero_le _
  | a :: l, m, hn, hs => by
    rw [List.nodup_cons] at hn
    have ha : a ∈ m := hs a List.mem_cons_self
    have ih := out_of l (m.erase a) hn.2 fun x hx => by
      have hx' := hs x (List.mem_cons_of_mem _ hx)
      have hne : x ≠ a := fun e => hn.1 (e ▸ hx)
      exact (List.mem_erase_of_ne hne).mpr hx'
    rw [List.length_erase_of_mem ha] at ih
    have hp : 0 < m.length := List.length_pos_of_mem ha
    show l.length + 1 ≤ m.length
    omega
theorem nodup_map_inj {α β : Type} {f : α → β} (hf : ∀ a b, f a = f b → a = b) : ∀ {l : List α}, l.Nodup → (l.map f).Nodup
  | [], _ => List.nodup_nil
  | a :: l, h => by
    rw [List.nodup_cons] at h
    rw [List.map_cons, List.nodup_cons]
    refine ⟨fun hm => ?_, nodup_map_inj hf h.2⟩
    obtain ⟨b, hb, e⟩ := List.mem_map.mp hm
    exact h.1 (hf _ _ e ▸ hb)
theorem abc_nodup : abc.cps.toList.Nodup := by decide +kernel
theorem fresh (w : Str) (ws : List Str) (h : ws.length < 26) : ∃ r rest, ((abc.cps.toList.map (cand w)).filter fun x => decide (x ∉ ws)) = r :: rest := by
  cases e : ((abc.cps.toList.map (cand w)).filter fun x => decide (x ∉ ws)) with
  | cons r rest => exact ⟨r, rest, rfl⟩
  | nil =>
    rw [List.filter_eq_nil_iff] at e
    have := out_of (abc.cps.toList.map (cand w)) ws (nodup_map_inj (fun a b => cand_inj) abc_nodup) fun x hx => by
      have := e x hx
      simpa using this
    rw [List.length_map, len_toList, abc_len] at this
    omega
theorem inV_str (x : Str) : ∀ ws : List Str, inV (.str x) (ws.map V.str) = decide (x ∈ ws)
  | [] => by simp [inV]
  | y :: r => by
    have ih := inV_str x r
    unfold inV at ih ⊢
    rw [List.map_cons, List.any_cons, ih]
    have e : eqV (.str y) (.str x) = decide (y = x) := by
      show (y == x) = decide (y = x)
      rw [Bool.beq_eq_decide_eq]
    rw [e]
    by_cases h : y = x
    · simp [h]
    · simp [h, Ne.symm h]
theorem flat_strs (ws : List Str) : (ws.map V.str).all flatV = true := by
  induction ws with
  | nil => rfl
  | cons a r ih => simpa [flatV] using ih
/-- signs put together -/
theorem join_l : ∀ cs : List Nat, (Txt.join (Str.ofString "") (cs.map fun c => (⟨#[c]⟩ : Str))).cps.toList = cs := fun cs => by
  rw [show Txt.join (Str.ofString "") (cs.map fun c => (⟨#[c]⟩ : Str)) = Str.join (Str.ofString "") (cs.map fun c => (⟨#[c]⟩ : Str)) from PySem.StrLaws.glued_eq_join _ _]
  have e0 : (Str.ofString "").cps.toList = [] := by decide +kernel
  induction cs with
  | nil => rfl
  | cons c r ih =>
    cases r with
    | nil => rfl
    | cons c2 r2 =>
      show ((⟨#[c]⟩ : Str) ++ Str.ofString "" ++ Str.join (Str.ofString "") ((c2 :: r2).map fun c => (⟨#[c]⟩ : Str))).cps.toList = c :: c2 :: r2
      rw [app_l, app_l, e0, ih]
      rfl
end K1
set_option Elab.async false
set_option linter.all false
set_option maxRecDepth 100000
set_option maxHeartbeats 4000000
namespace K1
open PySem PySem.Spec PyProof.Rows L2
/-! ### a def by its name, with its promise -/
structure Df (P : Program) (w : World) (K : PySem.W.Frag) (mg : Str → Option Value) (base : Heap) (CX : CXT) (x : Str) (k : Nat) (ps : List Str) (sp : Sp) : Prop where
  ex : ∃ (f : Addr) (fd : FuncData), FnOk P w K mg base CX k f fd ps sp ∧ mg x = some (.ref f) ∧ PySem.W.keepIn K (.ref f) = true ∧ Binds K fd ps []
theorem pe_df {X : Cx} {CX : CXT} {x : Str} {k j : Nat} {ps : List Str} {sp : Sp} {E : XK} {e : Expr} {es : List Expr} {t : TA} {p pos : Pos} (D : Df X.prog X.w X.K X.mg X.base CX x k ps sp) (hr : Room j X.A) (hx : Passes CX X E) (ha : PA X (e :: es) t)
    (hk : k ≤ j := by decide) (hg : Gl X x := by rfl) (hdb : (x == ("__debug__" : Str)) = false := by decide) (he : starEach (e :: es) X.env = (false, eval e X.env) :: starEach es X.env := by rfl) (hpl : (backTo pos (starEach es X.env)).any (·.1) = false := by rfl) :
    PE X (.Call (.Name x p) (e :: es) [] pos) (tCall sp [] E t) := by
  obtain ⟨f, fd, F, hm, kp, hb⟩ := D.ex
  exact pe_call F (hr.mono hk) hg hm kp hb .nil hx ha hdb he hpl
abbrev sPick' : Stmt := topS 55
abbrev sWords : Stmt := topS 56
structure Bt (mg : Str → Option Value) : Prop where
  list : mg "list" = none
  len : mg "len" = none
  range : mg "range" = none
def spPick : Sp := fun vs H Q _ => ∃ (d g c l : Addr) (t : Nat) (xs : List V), vs = [.ref d, .ref l] ∧ Gen d g c t H ∧ t < 2 ^ 30 ∧ H l = some (.lst xs) ∧ l ≠ g ∧ xs ≠ [] ∧ xs.length < 2 ^ 50 ∧
  ∀ (v : V) (H' : Hp), v ∈ xs → Gen d g c (t + 1) H' → Kp d g H H' → Q v H'
section
variable {P : Program} {w : World} {K : PySem.W.Frag} {mg : Str → Option Value} {base : Heap}
theorem scPick : FnScope ["_law_state", "_law_picks"] ["_law_state", "_law_picks"] (defScope sPick') := ⟨rfl, rfl, rfl, by decide +kernel, rfl, by decide +kernel, by decide +kernel⟩
theorem at_nat {xs : List V} {v : Int} (h0 : 0 ≤ v) (h1 : v < xs.length) : ∃ x, atI xs v = some x ∧ x ∈ xs := by
  obtain ⟨n, rfl⟩ := Int.eq_ofNat_of_zero_le h0
  have hn : n < xs.length := by omega
  exact ⟨xs[n], atI_nat (List.getElem?_eq_getElem hn), List.getElem_mem hn⟩
theorem ok_pick {f : Addr} {fd : FuncData} (F : Fun K "_law_pick" "_law_pick" sPick' f fd) (DT : Df P w K mg base CX0 "_law_take" 2 ["_law_state", "_law_size"] spTake) (T : Bt mg) : FnOk P w K mg base CX0 3 f fd ["_law_state", "_law_picks"] spPick := by
  refine F.ok scPick (fun vs H Q E h => ?_) (fun cdv A outer s H vs Q E hr h => ?_)
  · obtain ⟨d, g, c, l, t, xs, rfl, _⟩ := h
    rfl
  · obtain ⟨d, g, c, l, t, xs, rfl, G, ht, hl, hlg, hne, hlen, k⟩ := h
    refine ⟨_, pss_one (ps_ret (pe_ix ix_list (pv 1) (pe_df DT hr pass0 (pa_cons (pv 0) (pa_cons (pe_callB call_len_seq (by rfl) T.len PySem.boot_len (pa_cons (pv 1) pa_nil)) pa_nil))) (fun _ _ => rfl))), ?_⟩
    have hpos : 0 < xs.length := List.length_pos_iff.mpr hne
    have hld : l ≠ d := by
      obtain ⟨_, _, _, _, _, e1, _⟩ := G
      exact ne_of hl e1 (by intro z; cases z)
    refine ⟨_, rfl, _, rfl, _, rfl, l, xs, rfl, .inl (SqL.of hl), d, g, c, t, (xs.length : Int), rfl, G, ht, by omega, by omega, fun v H' v0 v1 G' k' => ?_⟩
    obtain ⟨x, hx, hm⟩ := at_nat (xs := xs) v0 v1
    exact ⟨l, xs, v, x, rfl, rfl, SqL.of (k' l _ hld hlg hl), hx, k x H' hm G' k'⟩
abbrev nWords : List Str := ["_law_state", "_law_size", "_law_own", "_law_letters", "_law_found", "_law_k", "_law_word", "_law_long", "_law_j", "_law_more", "_law_letter", "_law_item"]
theorem scWords : FnScope nWords ["_law_state", "_law_size"] (defScope sWords) := ⟨rfl, rfl, rfl, by decide +kernel, rfl, by decide +kernel, by decide +kernel⟩
def spWords : Sp := fun vs H Q _ => ∃ (d g c : Addr) (t : Nat) (n : Nat), vs = [.ref d, .int n] ∧ Gen d g c t H ∧ n ≤ 25 ∧ t + 11 * n < 2 ^ 30 ∧
  ∀ (l : Addr) (ws : List Str) (H' : Hp), ws.length = n → ws.Nodup → (∀ w ∈ ws, nameB w = true) → H' l = some (.lst (ws.map V.str)) → H l = none → Gen d g c (t + 11 * n) H' → Kp d g H H' → Q (.ref l) H'
/-- the loop's state: v6 the word, ws the words found -/
def WS (d g c o F : Addr) (H0 : Hp) (n : Int) (ws : List Str) (tt : Nat) (v6 : Option V) (σ : L2.St) (H' : Hp) : Prop :=
  ∃ v5 v7 v8 v9 v10 v11 : Option V, σ = [some (.ref d), some (.int n), some (.ref o), some (.str abc), some (.ref F), v5, v6, v7, v8, v9, v10, v11] ∧ H' o = some (.lst (ownW.map V.str)) ∧ H' F = some (.lst (ws.map V.str)) ∧ Gen d g c tt H' ∧ Kp d g H0 H'
abbrev mk1 (c : Nat) : Str := ⟨#[c]⟩
theorem updN {H : Hp} {a b : Addr} {o : HO} (h : upd H a o b = none) : b ≠ a ∧ H b = none := by
  by_cases e : b = a
  · rw [e, upd_same] at h
    cases h
  · rw [upd_ne e] at h
    exact ⟨e, h⟩
theorem Gen.nd {d g c : Addr} {t : Nat} {H : Hp} (G : Gen d g c t H) {p : Addr} (h : H p = none) : p ≠ d ∧ p ≠ g := by
  obtain ⟨_, _, _, _, _, e1, e2, _⟩ := G
  exact ⟨(fun z => by rw [z, e1] at h; cases h), (fun z => by rw [z, e2] at h; cases h)⟩
theorem at_code {w : Str} {v : Int} (h0 : 0 ≤ v) (h1 : v < w.length) : ∃ x, atI w.cps.toList v = some x ∧ x ∈ w.cps.toList := by
  obtain ⟨n, rfl⟩ := Int.eq_ofNat_of_zero_le h0
  have hn : n < w.cps.toList.length := by rw [len_toList]; omega
  exact ⟨w.cps.toList[n], atI_nat (List.getElem?_eq_getElem hn), List.getElem_mem hn⟩
theorem Gen.nc {d g c : Addr} {t : Nat} {H : Hp} (G : Gen d g c t H) {p : Addr} (h : H p = none) : p ≠ c := by
  obtain ⟨_, _, _, _, _, _, _, e3, _⟩ := G
  exact fun z => by rw [z, e3] at h; cases h
theorem Gen.off {d g c p : Addr} {o : HO} {t : Nat} {H : Hp} (G : Gen d g c t H) (hd : p ≠ d) (hg : p ≠ g) (hc : p ≠ c) : Gen d g c t (upd H p o) := by
  obtain ⟨n, gs, cs, r, u, e1, e2, e3, e4⟩ := G
  exact ⟨n, gs, cs, r, u, by rw [upd_ne hd.symm]; exact e1, by rw [upd_ne hg.symm]; exact e2, by rw [upd_ne hc.symm]; exact e3, e4⟩
theorem sum_one : ∀ cs : List Nat, ((cs.map mk1).map (·.length)).sum = cs.length
  | [] => rfl
  | c :: r => by
    have ih := sum_one r
    rw [List.map_cons, List.map_cons, List.sum_cons, ih]
    show 1 + r.length = r.length + 1
    omega
theorem take_snoc {α : Type} : ∀ {l : List α} {i : Nat} {x : α}, l[i]? = some x → l.take (i + 1) = l.take i ++ [x]
  | [], i, x, h => by simp at h
  | a :: l, 0, x, h => by
    have e : a = x := by simpa using h
    rw [e]
    rfl
  | a :: l, i + 1, x, h => by
    have ih := take_snoc (l := l) (i := i) (x := x) (by simpa using h)
    rw [List.take_succ_cons, ih, List.take_succ_cons]
    rfl
theorem app_len (a b : Str) : (a ++ b).length = a.length + b.length := by
  rw [← len_toList, ← len_toList, ← len_toList, app_l, List.length_append]
theorem cutS_le (w : Str) : (cutS w none (some 6)).length ≤ w.length := by
  have h := cand_l w 0
  have h2 := congrArg List.length h
  rw [len_toList] at h2
  unfold cand at h2
  rw [app_len, app_len] at h2
  have e1 : (Str.ofString "z").length = 1 := by decide +kernel
  have e2 : (⟨#[0]⟩ : Str).length = 1 := rfl
  rw [e1, e2] at h2
  rw [List.length_append, List.length_take, len_toList] at h2
  simp only [List.length_cons, List.length_nil] at h2
  omega
theorem name_len {w : Str} (h : nameB w = true) : 1 ≤ w.length ∧ w.length ≤ 8 := by
  unfold nameB at h
  rw [Bool.and_eq_true, decide_eq_true_iff] at h
  exact h.1
theorem get_map {α β : Type} {f : α → β} {l : List α} {x : β} (h : x ∈ l.map f) : ∃ y, y ∈ l ∧ x = f y := by
  obtain ⟨y, h1, h2⟩ := List.mem_map.mp h
  exact ⟨y, h1, h2.symm⟩
theorem ok_words {f : Addr} {fd : FuncData} (F : Fun K "_law_words" "_law_words" sWords f fd) (DT : Df P w K mg base CX0 "_law_take" 2 ["_law_state", "_law_size"] spTake) (T : Bt mg) : FnOk P w K mg base CX0 3 f fd ["_law_state", "_law_size"] spWords := by
  refine F.ok scWords (fun vs H Q E h => ?_) (fun cdv A outer s H vs Q E hr h => ?_)
  · obtain ⟨d, g, c, t, n, rfl, _⟩ := h
    rfl
  · obtain ⟨d, g, c, t, n, rfl, G, hn, ht, k⟩ := h
    refine ⟨_, pss_cons (ps_set (i := 2) scWords.nd rfl (Or.inl rfl) pe_str)
      (pss_cons (ps_set (i := 2) scWords.nd rfl (Or.inl rfl) (pe_split (pe_op op_add_str (pv 2) pe_str) pe_str))
      (pss_cons (ps_asg (pe_tup (pa_cons pe_str (pa_cons (pe_lst pa_nil) pa_nil))) (pg_tup rfl (pgs_cons (pg_name (i := 3) scWords.nd rfl (Or.inr rfl)) (pgs_cons (pg_name (i := 4) scWords.nd rfl (Or.inr rfl)) pgs_nil))))
      (pss_cons (ps_for PassesOwn.never rfl (pi_range1 rfl T.range (pa_cons (pv 1) pa_nil)) (pg_name (i := 5) scWords.nd rfl (Or.inl rfl))
        (pss_cons (ps_set (i := 6) scWords.nd rfl (Or.inr rfl) (pe_ix ix_list (pv 2) (pe_df DT hr pass0 (pa_cons (pv 0) (pa_cons (pe_callB call_len_seq (by rfl) T.len PySem.boot_len (pa_cons (pv 2) pa_nil)) pa_nil))) (fun _ _ => rfl)))
        (C8.pss_cut (ps_if (pt_cmpR op_gt (pe_df DT hr pass0 (pa_cons (pv 0) (pa_cons pe_int pa_nil))) pe_int (nomark _))
          (pss_cons (ps_set (i := 7) scWords.nd rfl (Or.inl rfl) (pe_ix ix_list (pe_lst (pa_cons pe_int (pa_cons pe_int (pa_cons pe_int (pa_cons pe_int pa_nil))))) (pe_df DT hr pass0 (pa_cons (pv 0) (pa_cons pe_int pa_nil))) (fun _ _ => rfl)))
          (pss_one (ps_set (i := 6) scWords.nd rfl (Or.inr rfl) (pe_join pe_str
            (pe_lc (own := [("_law_j", 8)]) (g := gName 8) (tt := tYes) rfl scWords.nd (pi_range1 rfl T.range (pa_cons (pv 7) pa_nil)) (blkOk_by (N := nWords) (sc := defScope sWords) (by decide +kernel)) (fun _ _ _ _ _ => pg_name (i := 8) scWords.nd rfl (Or.inl rfl)) (fun _ _ _ _ _ => pts_nil)
              (fun _ _ _ _ _ => pe_ix ix_str (pv 3) (pe_df DT hr pass0 (pa_cons (pv 0) (pa_cons pe_int pa_nil))) (fun _ _ => rfl)))))))
          pss_nil)
        (C8.pss_cut (ps_if (pt_cmpR op_in_seq (pv 6) (pv 4) (by rfl))
          (pss_cons (ps_setLc (i := 9) (own := [("_law_letter", 10)]) (g := gName 10) (tt := tYes) rfl scWords.nd rfl rfl (sw_true rfl rfl rfl (by decide +kernel)) (pi_str (pv 3)) (blkOk_by (N := nWords) (sc := defScope sWords) (by decide +kernel)) (fun _ _ _ _ _ => pg_name (i := 10) scWords.nd rfl (Or.inl rfl)) (fun _ _ _ _ _ => pts_nil)
              (fun _ _ _ _ _ => pe_op op_add_str (pe_op op_add_str (pe_slice sl_str (pv 6) po_none (po_some pe_int)) pe_str) (pv 10)))
          (pss_one (ps_set (i := 6) scWords.nd rfl (Or.inr rfl) (pe_ix ix_list (pe_lc (own := [("_law_item", 11)]) (g := gName 11) (tt := tTest (tOp (rIn K true) (tVar 11) (tVar 4))) rfl scWords.nd (pi_list (pv 9)) (blkOk_by (N := nWords) (sc := defScope sWords) (by decide +kernel)) (fun _ _ _ _ _ => pg_name (i := 11) scWords.nd rfl (Or.inl rfl)) (fun _ _ _ _ _ => pts_one (pt_cmpR op_notIn_seq (pv 11) (pv 4) (by rfl)))
              (fun _ _ _ _ _ => pv 11)) pe_int (fun _ _ => rfl)))))
          pss_nil)
        (pss_one (ps_expr (pe_bm PySem.F.plainAttrs_list PySem.F.slot_list_append PySem.F.type_list_append mt_append (pv 4) (pa_cons (pv 6) pa_nil))))))))
      (pss_one (ps_ret (pv 4)))))), ?_⟩
    refine ⟨_, rfl, _, _, rfl, rfl, (by decide +kernel), ⟨_, rfl⟩, _, _, rfl, rfl, (by decide +kernel), (by decide +kernel), fun o ho => ?_⟩
    refine ⟨(by show 0 ≤ sizeLine; decide), fun F hF => ⟨(by show 2 ≤ sizeLine; decide), fun q hq => ⟨q, _, rfl, SqT.of upd_same, rfl, _, _, rfl, _, _, rfl, rfl, ?_⟩⟩⟩
    obtain ⟨nFo, hF'⟩ := updN hF
    obtain ⟨od, og⟩ := G.nd ho
    obtain ⟨Fd, Fg⟩ := G.nd hF'
    have sB : Same H (upd (upd (upd H o (.lst (ownW.map V.str))) F (.lst [])) q (.tup [.str abc, .ref F])) := Same.new (Same.new (Same.new (Same.refl H) ho) hF) hq
    have eo : (upd (upd (upd H o (.lst (ownW.map V.str))) F (.lst [])) q (.tup [.str abc, .ref F])) o = some (.lst (ownW.map V.str)) := Same.new (Same.refl _) hq _ _ (by rw [upd_ne (Ne.symm nFo), upd_same]; rfl)
    have eF : (upd (upd (upd H o (.lst (ownW.map V.str))) F (.lst [])) q (.tup [.str abc, .ref F])) F = some (.lst (([] : List Str).map V.str)) := Same.new (Same.refl _) hq _ _ upd_same
    have ol := ownW_len
    refine ⟨_, rfl, n, rfl, by omega, by omega, for_range (lo := 0) (n := n) (fun i σ H' => ∃ ws : List Str, ws.length = i ∧ ws.Nodup ∧ (∀ w ∈ ws, nameB w = true) ∧ ∃ v6, WS d g c o F H n ws (t + 11 * i) v6 σ H')
      ⟨[], rfl, List.nodup_nil, (fun _ z => absurd z (by simp)), none, none, none, none, none, none, none, rfl, eo, eF, G.same sB, Kp.of sB⟩ ?_ ?_⟩
    · rintro i σ H' hi ⟨ws, lw, nw, aw, v6, v5, v7, v8, v9, v10, v11, rfl, e1, e2, G1, k1⟩
      -- the word is one of its own
      refine ⟨_, rfl, _, rfl, _, rfl, o, _, rfl, .inl (SqL.of e1), d, g, c, _, (((ownW.map V.str).length : Nat) : Int), rfl, G1, by omega, by rw [List.length_map]; omega, by rw [List.length_map]; omega, fun v H2 v0 v1 G2 k2 => ?_⟩
      obtain ⟨x, hx, hm⟩ := at_nat (xs := ownW.map V.str) v0 v1
      obtain ⟨w0, hw0, rfl⟩ := get_map hm
      refine ⟨o, _, v, _, rfl, rfl, SqL.of (k2 o _ od og e1), hx, ?_⟩
      -- .. or one of signs
      refine ⟨fun σ' H' => ∃ w1, nameB w1 = true ∧ WS d g c o F H n ws (t + 11 * i + 11) (some (.str w1)) σ' H', ?_, ?_⟩
      · refine ⟨_, rfl, d, g, c, _, 3, rfl, G2, by omega, by decide, by decide, fun u H3 u0 u1 G3 k3 => ⟨_, _, rfl, rfl, _, rfl, ?_⟩⟩
        have e13 := k3 o _ od og (k2 o _ od og e1)
        have e23 := k3 F _ Fd Fg (k2 F _ Fd Fg e2)
        have k13 := (k1.trans k2).trans k3
        refine ite2 (fun _ => ?_) (fun _ => ?_)
        · refine ⟨(by show 4 ≤ sizeLine; decide), fun p hp => ⟨_, rfl, d, g, c, _, 4, rfl, G3.new hp, by omega, by decide, by decide, fun u2 H4 u20 u21 G4 k4 => ?_⟩⟩
          obtain ⟨pd, pg⟩ := G3.nd hp
          have s3 := Same.new (o := .lst [.int 1, .int 2, .int 8, .int 3]) (Same.refl H3) hp
          obtain ⟨y, hy, my⟩ := at_nat (xs := [V.int 1, .int 2, .int 8, .int 3]) u20 u21
          obtain ⟨lg, hlg, rfl⟩ : ∃ lg : Nat, (1 ≤ lg ∧ lg ≤ 8) ∧ y = .int lg := by
            simp only [List.mem_cons, List.not_mem_nil, or_false] at my
            rcases my with rfl | rfl | rfl | rfl
            · exact ⟨1, by decide, rfl⟩
            · exact ⟨2, by decide, rfl⟩
            · exact ⟨8, by decide, rfl⟩
            · exact ⟨3, by decide, rfl⟩
          have e14 := k4 o _ od og (s3 _ _ e13)
          have e24 := k4 F _ Fd Fg (s3 _ _ e23)
          have k14 := (k13.trans (Kp.of s3)).trans k4
          refine ⟨p, _, u2, _, rfl, rfl, SqL.of (k4 p _ pd pg upd_same), hy, ⟨_, rfl⟩, _, rfl, lg, rfl, by omega, by omega, fun D hD => lc_range (lo := 0) (n := lg) (fun i5 H5 => ∃ cs : List Nat, cs.length = i5 ∧ (∀ c ∈ cs, isLow c = true) ∧ H5 D = some (.lst ((cs.map mk1).map V.str)) ∧
              H5 o = some (.lst (ownW.map V.str)) ∧ H5 F = some (.lst (ws.map V.str)) ∧ Gen d g c (t + 11 * i + 3 + i5) H5 ∧ Kp d g H H5) ?_ ?_ ?_⟩
          · have s4 := Same.new (o := .lst []) (Same.refl H4) hD
            exact ⟨[], rfl, (fun _ z => absurd z (by simp)), upd_same, s4 _ _ e14, s4 _ _ e24, G4.same s4, k14.trans (Kp.of s4)⟩
          · rintro i5 H5 hi5 ⟨cs, lc, ac, eD, e15, e25, G5, k5⟩
            obtain ⟨nDo, hD'⟩ : D ≠ o ∧ D ≠ F := ⟨(fun z => by rw [z, e14] at hD; cases hD), (fun z => by rw [z, e24] at hD; cases hD)⟩
            obtain ⟨Dd, Dg⟩ := G4.nd hD
            refine ⟨rfl, _, rfl, _, rfl, d, g, c, _, 26, rfl, G5, by omega, by decide, by decide, fun u6 H6 u60 u61 G6 k6 => ?_⟩
            obtain ⟨ch, hch, mch⟩ := at_code (w := abc) u60 (by rw [abc_len]; exact u61)
            refine ⟨abc, u6, ch, rfl, rfl, (by decide +kernel), hch, _, k6 D _ Dd Dg eD, ?_, cs ++ [ch], ?_, ?_, ?_, ?_, ?_, ?_, ?_⟩
            · rw [List.length_map, List.length_map, sizeLine_eq]
              omega
            · rw [List.length_append, lc]
              rfl
            · intro x hx
              rcases List.mem_append.mp hx with h | h
              · exact ac x h
              · rw [List.mem_singleton.mp h]
                exact abc_low ch mch
            · rw [upd_same, List.map_append, List.map_append]
              rfl
            · rw [upd_ne (Ne.symm nDo)]
              exact k6 o _ od og e15
            · rw [upd_ne (Ne.symm hD')]
              exact k6 F _ Fd Fg e25
            · exact (G6.off Dd Dg (G4.nc hD)).mono (by omega)
            · exact (k5.trans k6).upd (.inl (G.free G4 k14 hD))
          · rintro H5 ⟨cs, lc, ac, eD, e15, e25, G5, k5⟩
            refine ⟨_, D, cs.map mk1, rfl, rfl, .inl (SqL.of eD), ?_, Txt.join (Str.ofString "") (cs.map mk1), ?_, _, _, _, _, _, _, rfl, e15, e25, G5.mono (by omega), k5⟩
            · rw [sum_one, List.length_map, show (Str.ofString "").length = 0 by decide +kernel]
              omega
            · unfold nameB
              have e := join_l cs
              have el := len_toList (Txt.join (Str.ofString "") (cs.map mk1))
              rw [e] at el ⊢
              rw [Bool.and_eq_true, decide_eq_true_iff, List.all_eq_true, ← el]
              exact ⟨by omega, ac⟩
        · exact ⟨w0, ownW_ok w0 hw0, _, _, _, _, _, _, rfl, e13, e23, G3.mono (by omega), k13⟩
      · rintro σ' H5 ⟨w1, hw1, b5, b7, b8, b9, b10, b11, rfl, e15, e25, G5, k5⟩
        refine ⟨fun σ' H' => ∃ w2, nameB w2 = true ∧ w2 ∉ ws ∧ WS d g c o F H n ws (t + 11 * i + 11) (some (.str w2)) σ' H', ?_, ?_⟩
        · refine ⟨_, rfl, _, rfl, F, _, rfl, .inl (SqL.of e25), rfl, flat_strs ws, _, rfl, ?_⟩
          refine ite2 (fun hb => ?_) (fun hb => ?_)
          · refine ⟨_, rfl, abc, rfl, fun D hD => lc_it walk_str (fun i6 H6 => Same H5 H6 ∧ H6 D = some (.lst (((abc.cps.toList.take i6).map (cand w1)).map V.str))) ⟨Same.new (Same.refl H5) hD, upd_same⟩ (fun _ _ _ _ => trivial) ?_ ?_⟩
            · rintro i6 x H6 H7 hi6 ⟨s6, eD⟩ ⟨rfl, ch, hch, rfl⟩
              have hch' : abc.cps.toList[i6]? = some ch := by rw [Array.getElem?_toList]; exact hch
              have hlen : i6 < 26 := by
                have := (List.getElem?_eq_some_iff.mp hch').1
                rw [len_toList, abc_len] at this
                exact this
              have nl := name_len hw1
              have hc1 : (cutS w1 none (some 6)).length ≤ 8 := by
                have := cutS_le w1
                omega
              have hcl : (cutS w1 none (some 6) ++ Str.ofString "z").length ≤ 9 := by
                rw [app_len, show (Str.ofString "z").length = 1 by decide +kernel]
                omega
              refine ⟨rfl, _, rfl, 6, rfl, w1, rfl, (by rw [sizeLine_eq]; omega), _, _, rfl, rfl, (by rw [sizeLine_eq, show (Str.ofString "z").length = 1 by decide +kernel]; omega), _, rfl, _, _, rfl, rfl, (by rw [sizeLine_eq, show (⟨#[ch]⟩ : Str).length = 1 from rfl]; omega), _, eD, ?_, ?_, ?_⟩
              · rw [List.length_map, List.length_map, List.length_take, sizeLine_eq]
                omega
              · exact fun b o e => by
                  rw [upd_ne (ne_of_none e hD)]
                  exact s6 b o e
              · rw [upd_same, take_snoc hch', List.map_append, List.map_append]
                rfl
            · rintro H6 ⟨s6, eD⟩
              rw [show abc.cps.size = abc.cps.toList.length from rfl, List.take_length] at eD
              refine ⟨_, rfl, D, rfl, ⟨_, SqL.of eD⟩, fun D2 hD2 => lc_list (K := K) (a := D) (xs := (abc.cps.toList.map (cand w1)).map V.str) (fun i7 H7 => Same H6 H7 ∧ H7 D2 = some (.lst ((((abc.cps.toList.map (cand w1)).take i7).filter fun x => decide (x ∉ ws)).map V.str)))
                ⟨Same.new (Same.refl H6) hD2, upd_same⟩ (fun i H7 _ z => SqL.of (z.1 _ _ eD)) ?_ ?_⟩
              · rintro i7 x H7 hi7 ⟨s7, eD2⟩
                rw [List.getElem?_map] at hi7
                obtain ⟨cw, hcw, rfl⟩ : ∃ cw, (abc.cps.toList.map (cand w1))[i7]? = some cw ∧ x = .str cw := by
                  cases e : (abc.cps.toList.map (cand w1))[i7]? with
                  | none => rw [e] at hi7; cases hi7
                  | some z => rw [e] at hi7; exact ⟨z, rfl, (Option.some.inj hi7).symm⟩
                have hl7 : i7 < 26 := by
                  have := (List.getElem?_eq_some_iff.mp hcw).1
                  rw [List.length_map, len_toList, abc_len] at this
                  exact this
                refine ⟨rfl, _, rfl, _, rfl, F, _, rfl, .inl (SqL.of (s7 _ _ (s6 _ _ e25))), rfl, flat_strs ws, _, rfl, ?_⟩
                refine ite2 (fun hb2 => ?_) (fun hb2 => ?_)
                · have hb3 : cw ∉ ws := by
                    have h2 : (!inV (.str cw) (ws.map V.str)) = true := hb2
                    rw [inV_str] at h2
                    simpa using h2
                  refine ⟨_, rfl, _, eD2, ?_, ?_, ?_⟩
                  · rw [List.length_map, sizeLine_eq]
                    have := List.length_filter_le (fun x => decide (x ∉ ws)) ((abc.cps.toList.map (cand w1)).take i7)
                    rw [List.length_take] at this
                    omega
                  · exact fun b o e => by
                      rw [upd_ne (ne_of_none e hD2)]
                      exact s7 b o e
                  · rw [upd_same, take_snoc hcw, List.filter_append, List.map_append]
                    simp [hb3]
                · have hb3 : cw ∈ ws := by
                    have h2 : ¬ (!inV (.str cw) (ws.map V.str)) = true := hb2
                    rw [inV_str] at h2
                    simpa using h2
                  refine ⟨s7, ?_⟩
                  rw [eD2, take_snoc hcw, List.filter_append]
                  simp [hb3]
              · rintro H7 ⟨s7, eD2⟩
                rw [List.length_map, List.take_length] at eD2
                obtain ⟨r, rest, hr⟩ := fresh w1 ws (by omega)
                have hin : r ∈ ((abc.cps.toList.map (cand w1)).filter fun x => decide (x ∉ ws)) := by
                  rw [hr]
                  exact List.mem_cons_self
                rw [List.mem_filter] at hin
                obtain ⟨h1, h2⟩ := hin
                obtain ⟨ch, hch, rfl⟩ := List.mem_map.mp h1
                rw [hr] at eD2
                have s67 : Same H5 H7 := s6.trans s7
                refine ⟨D2, _, 0, _, rfl, rfl, SqL.of eD2, atI_nat (j := 0) rfl, cand w1 ch, cand_name hw1 (abc_low ch hch), by simpa using h2, _, _, _, _, _, _, rfl, s67 _ _ e15, s67 _ _ e25, G5.same s67, k5.trans (Kp.of s67)⟩
          · refine ⟨w1, hw1, ?_, _, _, _, _, _, _, rfl, e15, e25, G5, k5⟩
            have h2 : ¬ (inV (.str w1) (ws.map V.str)) = true := hb
            rw [inV_str] at h2
            simpa using h2
        · rintro σ' H6 ⟨w2, hw2, nin, c5, c7, c8, c9, c10, c11, rfl, e16, e26, G6, k6⟩
          obtain ⟨Gd, Gg⟩ := G.nd hF'
          refine ⟨_, rfl, .inl ⟨rfl, _, SqL.of e26⟩, _, rfl, F, _, _, rfl, rfl, e26, (by rw [List.length_map, sizeLine_eq]; omega), ws ++ [w2], ?_, ?_, ?_, _, _, _, _, _, _, _, rfl, ?_, ?_, ?_, ?_⟩
          · rw [List.length_append, lw]
            rfl
          · rw [List.nodup_append]
            refine ⟨nw, by simp, fun a ha b hb => ?_⟩
            rw [List.mem_singleton.mp hb]
            exact fun e => nin (e ▸ ha)
          · intro x hx
            rcases List.mem_append.mp hx with h | h
            · exact aw x h
            · rw [List.mem_singleton.mp h]
              exact hw2
          · rw [upd_ne (Ne.symm nFo)]
            exact e16
          · rw [upd_same, List.map_append]
            rfl
          · exact (G6.off Fd Fg (G.nc hF')).mono (by omega)
          · exact k6.upd (.inl hF')
    · rintro σ H' ⟨ws, lw, nw, aw, v6, v5, v7, v8, v9, v10, v11, rfl, e1, e2, G1, k1⟩
      exact ⟨_, rfl, k F ws H' lw nw aw e2 hF' G1 k1⟩
end
end K1
set_option Elab.async false
set_option linter.all false
set_option maxRecDepth 100000
set_option maxHeartbeats 4000000
namespace K1
open PySem PySem.Spec PyProof.Rows L2
/-! ### data that stands in the heap -/
mutual
theorem dp_same {K : PySem.W.Frag} {H H' : Hp} (s : Same H H') : ∀ (d : PyData) (v : V), Dp K H v d → Dp K H' v d
  | .none, _, .non => .non
  | .bool _, _, .bl b => .bl b
  | .int _, _, .int i => .int i
  | .str _, _, .str x => .str x
  | .list ds, _, .lst h a => .lst (s.seq h) (dp_sameAll s ds _ a)
  | .tuple ds, _, .tup h a => .tup (by
      rcases h with (h | ⟨o, h⟩) | h
      · exact .inl (.inl (s _ _ h))
      · exact .inl (.inr ⟨o, s _ _ h⟩)
      · exact .inr h) (dp_sameAll s ds _ a)
theorem dp_sameAll {K : PySem.W.Frag} {H H' : Hp} (s : Same H H') : ∀ (ds : List PyData) (vs : List V), DpAll K H vs ds → DpAll K H' vs ds
  | [], _, .nil => .nil
  | d :: ds, _, .cons h t => .cons (dp_same s d _ h) (dp_sameAll s ds _ t)
end
theorem dpAll_len {K : PySem.W.Frag} {H : Hp} : ∀ {vs : List V} {ds : List PyData}, DpAll K H vs ds → vs.length = ds.length
  | _, _, .nil => rfl
  | _, _, .cons _ t => by rw [List.length_cons, List.length_cons, dpAll_len t]
theorem dpAll_at {K : PySem.W.Frag} {H : Hp} : ∀ {vs : List V} {ds : List PyData} {i : Nat} {v : V}, DpAll K H vs ds → vs[i]? = some v → ∃ d, ds[i]? = some d ∧ Dp K H v d
  | _, _, i, v, .nil, h => by simp at h
  | _, _, 0, v, .cons (d := d) h _, e => ⟨d, rfl, by
      have e' := Option.some.inj e
      rw [← e']
      exact h⟩
  | _, _, i + 1, v, .cons _ t, e => dpAll_at (i := i) t e
/-- data, or some dict at the top -/
inductive Dm (K : PySem.W.Frag) (H : Hp) : V → PyData → Prop where
  | dat {v : V} {d : PyData} (h : Dp K H v d) : Dm K H v d
  | dic {a : Addr} {kvs : List (Key × V)} (h : H a = some (.dK kvs)) : Dm K H (.ref a) (.dict [])
theorem Dm.same {K : PySem.W.Frag} {H H' : Hp} {v : V} {d : PyData} (s : Same H H') (h : Dm K H v d) : Dm K H' v d := by
  cases h with
  | dat h => exact .dat (dp_same s _ _ h)
  | dic h => exact .dic (s _ _ h)
def tyOf : PyData → String
  | .none => "NoneType" | .bool _ => "bool" | .int _ => "int" | .str _ => "str" | .list _ => "list" | .tuple _ => "tuple" | .dict _ => "dict"
theorem tyx_list {K : PySem.W.Frag} {H : Hp} {a : Addr} {xs : List V} (h : SqL K H a xs) : TyX K H (.ref a) (.type "list") := by
  rcases h with (h | ⟨o, h⟩) | ⟨o, its, n, h, hc, _⟩
  · exact .base (.lst h)
  · exact .base (.frz h)
  · exact .kList h hc
theorem tyx_tup {K : PySem.W.Frag} {H : Hp} {a : Addr} {xs : List V} (h : SqT K H a xs) : TyX K H (.ref a) (.type "tuple") := by
  rcases h with (h | ⟨o, h⟩) | ⟨o, its, n, h, hc, _⟩
  · exact .base (.tup h)
  · exact .fTuple h
  · exact .kTuple h hc
theorem tyx_of {K : PySem.W.Frag} {H : Hp} {v : V} {d : PyData} (h : Dm K H v d) : TyX K H v (.type (tyOf d)) := by
  cases h with
  | dat h =>
    cases h with
    | non => exact .base .non
    | bl b => exact .base (.bl b)
    | int i => exact .base (.int i)
    | str s => exact .base (.str s)
    | lst h _ => exact tyx_list h
    | tup h _ => exact tyx_tup h
  | dic h => exact .base (.dK h)
def isInt : PyData → Bool | .int _ => true | .bool _ => true | _ => false
def isBool : PyData → Bool | .bool _ => true | _ => false
def isStr : PyData → Bool | .str _ => true | _ => false
def isTup : PyData → Bool | .tuple _ => true | _ => false
def isLst : PyData → Bool | .list _ => true | _ => false
theorem kit_int {K : PySem.W.Frag} : ∀ d : PyData, PySem.W.kitOne K (.type (tyOf d)) (.type "int") = some (isInt d)
  | .none => kit_ty (a := "NoneType") (b := "int") (r := false) (by decide +kernel)
  | .bool _ => kit_ty (a := "bool") (b := "int") (r := true) (by decide +kernel)
  | .int _ => kit_ty (a := "int") (b := "int") (r := true) (by decide +kernel)
  | .str _ => kit_ty (a := "str") (b := "int") (r := false) (by decide +kernel)
  | .list _ => kit_ty (a := "list") (b := "int") (r := false) (by decide +kernel)
  | .tuple _ => kit_ty (a := "tuple") (b := "int") (r := false) (by decide +kernel)
  | .dict _ => kit_ty (a := "dict") (b := "int") (r := false) (by decide +kernel)
theorem kit_bool {K : PySem.W.Frag} : ∀ d : PyData, PySem.W.kitOne K (.type (tyOf d)) (.type "bool") = some (isBool d)
  | .none => kit_ty (a := "NoneType") (b := "bool") (r := false) (by decide +kernel)
  | .bool _ => kit_ty (a := "bool") (b := "bool") (r := true) (by decide +kernel)
  | .int _ => kit_ty (a := "int") (b := "bool") (r := false) (by decide +kernel)
  | .str _ => kit_ty (a := "str") (b := "bool") (r := false) (by decide +kernel)
  | .list _ => kit_ty (a := "list") (b := "bool") (r := false) (by decide +kernel)
  | .tuple _ => kit_ty (a := "tuple") (b := "bool") (r := false) (by decide +kernel)
  | .dict _ => kit_ty (a := "dict") (b := "bool") (r := false) (by decide +kernel)
theorem kit_str {K : PySem.W.Frag} : ∀ d : PyData, PySem.W.kitOne K (.type (tyOf d)) (.type "str") = some (isStr d)
  | .none => kit_ty (a := "NoneType") (b := "str") (r := false) (by decide +kernel)
  | .bool _ => kit_ty (a := "bool") (b := "str") (r := false) (by decide +kernel)
  | .int _ => kit_ty (a := "int") (b := "str") (r := false) (by decide +kernel)
  | .str _ => kit_ty (a := "str") (b := "str") (r := true) (by decide +kernel)
  | .list _ => kit_ty (a := "list") (b := "str") (r := false) (by decide +kernel)
  | .tuple _ => kit_ty (a := "tuple") (b := "str") (r := false) (by decide +kernel)
  | .dict _ => kit_ty (a := "dict") (b := "str") (r := false) (by decide +kernel)
theorem kit_tup {K : PySem.W.Frag} : ∀ d : PyData, PySem.W.kitOne K (.type (tyOf d)) (.type "tuple") = some (isTup d)
  | .none => kit_ty (a := "NoneType") (b := "tuple") (r := false) (by decide +kernel)
  | .bool _ => kit_ty (a := "bool") (b := "tuple") (r := false) (by decide +kernel)
  | .int _ => kit_ty (a := "int") (b := "tuple") (r := false) (by decide +kernel)
  | .str _ => kit_ty (a := "str") (b := "tuple") (r := false) (by decide +kernel)
  | .list _ => kit_ty (a := "list") (b := "tuple") (r := false) (by decide +kernel)
  | .tuple _ => kit_ty (a := "tuple") (b := "tuple") (r := true) (by decide +kernel)
  | .dict _ => kit_ty (a := "dict") (b := "tuple") (r := false) (by decide +kernel)
theorem kit_lst {K : PySem.W.Frag} : ∀ d : PyData, PySem.W.kitOne K (.type (tyOf d)) (.type "list") = some (isLst d)
  | .none => kit_ty (a := "NoneType") (b := "list") (r := false) (by decide +kernel)
  | .bool _ => kit_ty (a := "bool") (b := "list") (r := false) (by decide +kernel)
  | .int _ => kit_ty (a := "int") (b := "list") (r := false) (by decide +kernel)
  | .str _ => kit_ty (a := "str") (b := "list") (r := false) (by decide +kernel)
  | .list _ => kit_ty (a := "list") (b := "list") (r := true) (by decide +kernel)
  | .tuple _ => kit_ty (a := "tuple") (b := "list") (r := false) (by decide +kernel)
  | .dict _ => kit_ty (a := "dict") (b := "list") (r := false) (by decide +kernel)
theorem kit_lt {K : PySem.W.Frag} (d : PyData) : PySem.W.kitAny K (.type (tyOf d)) [.type "list", .type "tuple"] = some (isLst d || isTup d) := by
  refine kitAny_cons (kit_lst d) (fun h => ?_) fun h => by rw [h]; rfl
  refine kitAny_cons (kit_tup d) (fun h2 => ?_) fun h2 => by rw [h2, Bool.or_true]
  rw [h, h2]
  exact kitAny_nil
/-! ### the data's own words -/
mutual
def fineD : PyData → Bool
  | .str s => decide (s.length ≤ 1000)
  | .list ds => decide (ds.length ≤ 1000) && fineAll ds
  | .tuple ds => decide (ds.length ≤ 1000) && fineAll ds
  | _ => true
def fineAll : List PyData → Bool
  | [] => true
  | d :: ds => fineD d && fineAll ds
end
theorem fine_at : ∀ {ds : List PyData} {i : Nat} {d : PyData}, fineAll ds = true → ds[i]? = some d → fineD d = true
  | [], i, d, _, h => by simp at h
  | a :: r, 0, d, hf, h => by
    have e := Option.some.inj h
    rw [← e]
    exact (Bool.and_eq_true_iff.mp hf).1
  | a :: r, i + 1, d, hf, h => fine_at (i := i) (Bool.and_eq_true_iff.mp hf).2 h
theorem fine_str {s : Str} (h : fineD (.str s) = true) : s.length ≤ 1000 := of_decide_eq_true h
theorem fine_tup {ds : List PyData} (h : fineD (.tuple ds) = true) : ds.length ≤ 1000 ∧ fineAll ds = true := by
  have h' := Bool.and_eq_true_iff.mp h
  exact ⟨of_decide_eq_true h'.1, h'.2⟩
theorem fine_lst {ds : List PyData} (h : fineD (.list ds) = true) : ds.length ≤ 1000 ∧ fineAll ds = true := by
  have h' := Bool.and_eq_true_iff.mp h
  exact ⟨of_decide_eq_true h'.1, h'.2⟩

def okD : PyData → Bool
  | .dict _ => true
  | d => fineD d && SeqAt.shaped d
theorem ok_str {s : Str} (h : okD (.str s) = true) : s.length ≤ 1000 := fine_str (Bool.and_eq_true_iff.mp h).1
theorem ok_tup {ds : List PyData} (h : okD (.tuple ds) = true) : ds.length ≤ 1000 ∧ fineAll ds = true ∧ SeqAt.shaped (.tuple ds) = true := by
  have h' := Bool.and_eq_true_iff.mp h
  exact ⟨(fine_tup h'.1).1, (fine_tup h'.1).2, h'.2⟩
theorem ok_lst {ds : List PyData} (h : okD (.list ds) = true) : ds.length ≤ 1000 ∧ fineAll ds = true ∧ SeqAt.shaped (.list ds) = true := by
  have h' := Bool.and_eq_true_iff.mp h
  exact ⟨(fine_lst h'.1).1, (fine_lst h'.1).2, h'.2⟩
theorem lay_at : ∀ {ds : List PyData} {i : Nat} {d : PyData}, PyData.canLayAll0 ds = true → ds[i]? = some d → PyData.canLay0 d = true
  | [], i, d, _, h => by simp at h
  | a :: r, 0, d, hf, h => by
    have e := Option.some.inj h
    rw [← e]
    have hf' : PyData.canLay0 a = true ∧ PyData.canLayAll0 r = true := by simpa [PyData.canLayAll0] using hf
    exact hf'.1
  | a :: r, i + 1, d, hf, h => by
    have hf' : PyData.canLay0 a = true ∧ PyData.canLayAll0 r = true := by simpa [PyData.canLayAll0] using hf
    exact lay_at (i := i) hf'.2 h
theorem dep_at : ∀ {ds : List PyData} {i : Nat} {d : PyData}, ds[i]? = some d → PyData.depth d ≤ PyData.depthAll ds
  | [], i, d, h => by simp at h
  | a :: r, 0, d, h => by
    have e := Option.some.inj h
    rw [← e]
    simp only [PyData.depthAll]
    exact Nat.le_max_left _ _
  | a :: r, i + 1, d, h => by
    have := dep_at (ds := r) (i := i) h
    simp only [PyData.depthAll]
    exact Nat.le_trans this (Nat.le_max_right _ _)
theorem nodict {d : PyData} (h : PyData.canLay0 d = true) : ∀ kvs, d ≠ .dict kvs := by
  rintro kvs rfl
  simp [PyData.canLay0] at h
theorem ok_of {d : PyData} (h : PyData.canLay0 d = true) (hf : fineD d = true) (hd : PyData.depth d ≤ 64) : okD d = true := by
  have hs : SeqAt.shaped d = true := by
    unfold SeqAt.shaped
    rw [h, Bool.true_and, decide_eq_true_iff]
    exact hd
  cases d <;> first | rfl | (show (fineD _ && SeqAt.shaped _) = true; rw [hf, hs]; rfl)
theorem tup_at {ds : List PyData} {i : Nat} {d : PyData} (h : okD (.tuple ds) = true) (hi : ds[i]? = some d) : okD d = true ∧ SeqAt.shaped d = true := by
  obtain ⟨_, h2, h3⟩ := ok_tup h
  have hl : PyData.canLayAll0 ds = true := by simpa [PyData.canLay0] using SeqAt.canLay_of_shaped h3
  have hd : PyData.depth d ≤ 64 := by
    have a := dep_at hi
    have b := SeqAt.depth_of_shaped h3
    simp only [PyData.depth] at b
    omega
  have l := lay_at hl hi
  exact ⟨ok_of l (fine_at h2 hi) hd, by unfold SeqAt.shaped; rw [l, Bool.true_and, decide_eq_true_iff]; exact hd⟩
theorem lst_at {ds : List PyData} {i : Nat} {d : PyData} (h : okD (.list ds) = true) (hi : ds[i]? = some d) : okD d = true ∧ SeqAt.shaped d = true := by
  obtain ⟨_, h2, h3⟩ := ok_lst h
  have hl : PyData.canLayAll0 ds = true := by simpa [PyData.canLay0] using SeqAt.canLay_of_shaped h3
  have hd : PyData.depth d ≤ 64 := by
    have a := dep_at hi
    have b := SeqAt.depth_of_shaped h3
    simp only [PyData.depth] at b
    omega
  have l := lay_at hl hi
  exact ⟨ok_of l (fine_at h2 hi) hd, by unfold SeqAt.shaped; rw [l, Bool.true_and, decide_eq_true_iff]; exact hd⟩
def numD : PyData → Bool | .int _ => true | _ => false
def listD (d : PyData) : Bool := isLst d || isTup d
def nameD : PyData → Bool | .str s => nameB s | _ => false
def kindsD (k : PyData) : Bool := PyData.eqv (.str "pair") k || (PyData.eqv (.str "row") k || (PyData.eqv (.str "heap") k || false))
def signD : PyData → Bool
  | .tuple [n, k, .int m] => nameD n && if PyData.eqv k (.str "plain") then decide (0 ≤ m ∧ m ≤ 4) else kindsD k && decide (m = 2)
  | _ => false
theorem one_more {K : PySem.W.Frag} {H : Hp} {xs : List V} {d : PyData} {ds : List PyData} (h : DpAll K H xs (d :: ds)) : ∃ x r, xs = x :: r ∧ Dp K H x d ∧ DpAll K H r ds := by
  cases h with
  | cons h t => exact ⟨_, _, rfl, h, t⟩
theorem no_more {K : PySem.W.Frag} {H : Hp} {xs : List V} (h : DpAll K H xs []) : xs = [] := by
  cases h with
  | nil => rfl
theorem three {K : PySem.W.Frag} {H : Hp} {xs : List V} {ds : List PyData} (h : DpAll K H xs ds) (hl : ds.length = 3) : ∃ a b c x y z, ds = [a, b, c] ∧ xs = [x, y, z] ∧ Dp K H x a ∧ Dp K H y b ∧ Dp K H z c := by
  match ds, hl with
  | [a, b, c], _ =>
    obtain ⟨x, r, rfl, h1, t1⟩ := one_more h
    obtain ⟨y, r, rfl, h2, t2⟩ := one_more t1
    obtain ⟨z, r, rfl, h3, t3⟩ := one_more t2
    cases no_more t3
    exact ⟨a, b, c, x, y, z, rfl, rfl, h1, h2, h3⟩
theorem signD_len : ∀ {ds : List PyData}, ds.length ≠ 3 → signD (.tuple ds) = false
  | [], _ => rfl
  | [_], _ => rfl
  | [_, _], _ => rfl
  | [_, _, _], h => absurd rfl h
  | a :: b :: c :: d :: r, _ => by
    cases c <;> rfl
theorem signD_name {n k m : PyData} (h : nameD n = false) : signD (.tuple [n, k, m]) = false := by
  cases m with
  | int i =>
    show (nameD n && _) = false
    rw [h, Bool.false_and]
  | _ => rfl
theorem signD_num {n k m : PyData} (h : numD m = false) : signD (.tuple [n, k, m]) = false := by
  cases m with
  | int i => cases h
  | _ => rfl
theorem signD_plain {n k : PyData} {m : Int} (h : nameD n = true) (hp : PyData.eqv k (.str "plain") = true) : signD (.tuple [n, k, .int m]) = decide (0 ≤ m ∧ m ≤ 4) := by
  show (nameD n && if PyData.eqv k (.str "plain") = true then decide (0 ≤ m ∧ m ≤ 4) else kindsD k && decide (m = 2)) = _
  rw [h, Bool.true_and, if_pos hp]
theorem signD_kind {n k : PyData} {m : Int} (h : nameD n = true) (hp : ¬ PyData.eqv k (.str "plain") = true) : signD (.tuple [n, k, .int m]) = (kindsD k && decide (m = 2)) := by
  show (nameD n && if PyData.eqv k (.str "plain") = true then decide (0 ≤ m ∧ m ≤ 4) else kindsD k && decide (m = 2)) = _
  rw [h, Bool.true_and, if_neg hp]
/-- what the text's constants and the built-ins are -/
structure Cs (mg : Str → Option Value) : Prop where
  small : ∃ t, mg "SMALL" = some (.str abc t)
  nlet : ∃ t, mg "NAME_LETTERS" = some (.int 8 t)
  msig : ∃ t, mg "MOST_SIGNS" = some (.int 24 t)
  mpla : ∃ t, mg "MOST_PLAIN" = some (.int 4 t)
  isi : mg "isinstance" = none
  int : mg "int" = none
  bool : mg "bool" = none
  str : mg "str" = none
  list : mg "list" = none
  tuple : mg "tuple" = none
  len : mg "len" = none
  all : mg "all" = none
  range : mg "range" = none
  repr : mg "repr" = none
  dict : mg "dict" = none
abbrev sNum : Stmt := topS 13
abbrev sList : Stmt := topS 14
abbrev sSmall : Stmt := topS 15
abbrev sName : Stmt := topS 16
abbrev sSign : Stmt := topS 18
def spP (K : PySem.W.Frag) (f : PyData → Bool) : Sp := fun vs H Q _ => ∃ (v : V) (d : PyData), vs = [v] ∧ Dm K H v d ∧ okD d = true ∧ ∀ H', Same H H' → Q (.bl (f d)) H'
def spSmall : Sp := fun vs H Q _ => ∃ (s : Str), vs = [.str s] ∧ s.length ≤ 100000 ∧ ∀ H', Same H H' → Q (.bl (s.cps.toList.all isLow)) H'
section
variable {P : Program} {w : World} {K : PySem.W.Frag} {mg : Str → Option Value} {base : Heap}
theorem scNum : FnScope ["thing"] ["thing"] (defScope sNum) := ⟨rfl, rfl, rfl, by decide +kernel, rfl, by decide +kernel, by decide +kernel⟩
theorem ok_num {f : Addr} {fd : FuncData} (F : Fun K "is_number" "is_number" sNum f fd) (T : Cs mg) : FnOk P w K mg base CX0 1 f fd ["thing"] (spP K numD) := by
  refine F.ok scNum (fun vs H Q E h => ?_) (fun cdv A outer s H vs Q E hr h => ?_)
  · obtain ⟨v, d, rfl, _⟩ := h
    rfl
  · obtain ⟨v, d, rfl, hd, fd', k⟩ := h
    refine ⟨_, pss_one (ps_ret (pe_and (pe_callB call_isi (by rfl) T.isi boot_isinstance (pa_cons (pv 0) (pa_cons (pe_bltn (v := .ty "int") (by rfl) T.int boot_int rfl) pa_nil)))
      (pe_one (pe_not (pe_callB call_isi (by rfl) T.isi boot_isinstance (pa_cons (pv 0) (pa_cons (pe_bltn (v := .ty "bool") (by rfl) T.bool boot_bool rfl) pa_nil))))))), ?_⟩
    refine ⟨_, rfl, _, _, _, _, _, rfl, .ty "int", tyx_of hd, kit_int d, _, rfl, ?_⟩
    refine ite2 (fun h1 => ?_) (fun h1 => ?_)
    · refine ⟨_, rfl, _, _, _, _, _, rfl, .ty "bool", tyx_of hd, kit_bool d, _, rfl, ?_⟩
      have e : (!isBool d) = numD d := by cases d <;> first | rfl | (exact absurd h1 Bool.false_ne_true)
      show Q (.bl (!isBool d)) H
      rw [e]
      exact k H (Same.refl H)
    · have e : false = numD d := by cases d <;> first | rfl | (exact absurd rfl h1)
      show Q (.bl false) H
      rw [e]
      exact k H (Same.refl H)
theorem scList : FnScope ["thing"] ["thing"] (defScope sList) := ⟨rfl, rfl, rfl, by decide +kernel, rfl, by decide +kernel, by decide +kernel⟩
theorem ok_list {f : Addr} {fd : FuncData} (F : Fun K "is_list" "is_list" sList f fd) (T : Cs mg) : FnOk P w K mg base CX0 1 f fd ["thing"] (spP K listD) := by
  refine F.ok scList (fun vs H Q E h => ?_) (fun cdv A outer s H vs Q E hr h => ?_)
  · obtain ⟨v, d, rfl, _⟩ := h
    rfl
  · obtain ⟨v, d, rfl, hd, fd', k⟩ := h
    refine ⟨_, pss_one (ps_ret (pe_callB call_isiT (by rfl) T.isi boot_isinstance (pa_cons (pv 0) (pa_cons (pe_tup (pa_cons (pe_bltn (v := .ty "list") (by rfl) T.list boot_list rfl) (pa_cons (pe_bltn (v := .ty "tuple") (by rfl) T.tuple boot_tuple rfl) pa_nil))) pa_nil)))), ?_⟩
    refine ⟨_, rfl, (by show 2 ≤ sizeLine; decide), fun p hp => ⟨_, p, _, _, _, _, rfl, upd_same, .cons (.ty "list") (.cons (.ty "tuple") .nil), tyx_of (hd.same (Same.new (Same.refl H) hp)), kit_lt d, k _ (Same.new (Same.refl H) hp)⟩⟩
theorem mem_abc (c : Nat) : decide (c ∈ abc.cps.toList) = isLow c := by
  rw [abc_l]
  unfold isLow
  by_cases h : 97 ≤ c ∧ c ≤ 122
  · rw [decide_eq_true h, decide_eq_true_iff, List.mem_map]
    exact ⟨c - 97, List.mem_range.mpr (by omega), by omega⟩
  · rw [decide_eq_false h, decide_eq_false_iff_not, List.mem_map]
    rintro ⟨a, h1, h2⟩
    have := List.mem_range.mp h1
    omega
theorem scSmall : FnScope ["text", "letter"] ["text"] (defScope sSmall) := ⟨rfl, rfl, rfl, by decide +kernel, rfl, by decide +kernel, by decide +kernel⟩
theorem ok_small {f : Addr} {fd : FuncData} (F : Fun K "is_small" "is_small" sSmall f fd) (T : Cs mg) : FnOk P w K mg base CX0 1 f fd ["text"] spSmall := by
  refine F.ok scSmall (fun vs H Q E h => ?_) (fun cdv A outer s H vs Q E hr h => ?_)
  · obtain ⟨s, rfl, _⟩ := h
    rfl
  · obtain ⟨s, rfl, hl, k⟩ := h
    obtain ⟨t, hsm⟩ := T.small
    refine ⟨_, pss_one (ps_ret (pe_callB (cr_all rfl) (by rfl) T.all (by decide +kernel) (pa_cons (pe_lc (own := [("letter", 1)]) (g := gName 1) (tt := tYes) rfl scSmall.nd (pi_str (pv 0)) (blkOk_by (N := ["text", "letter"]) (sc := defScope sSmall) (by decide +kernel)) (fun _ _ _ _ _ => pg_name (i := 1) scSmall.nd rfl (Or.inl rfl)) (fun _ _ _ _ _ => pts_nil)
      (fun _ _ _ _ _ => pe_cmpR op_in_sign (pv 1) (pe_glob (v := .str abc) (by rfl) hsm ⟨_, rfl⟩) (by rfl))) pa_nil))), ?_⟩
    refine ⟨_, rfl, s, rfl, fun D hD => lc_it walk_str (fun i H6 => Same H H6 ∧ H6 D = some (.lst (((s.cps.toList.take i).map isLow).map V.bl))) ⟨Same.new (Same.refl H) hD, upd_same⟩ (fun _ _ _ _ => trivial) ?_ ?_⟩
    · rintro i x H6 H7 hi ⟨s6, eD⟩ ⟨rfl, ch, hch, rfl⟩
      have hch' : s.cps.toList[i]? = some ch := by rw [Array.getElem?_toList]; exact hch
      have hi' : i < s.length := hi
      refine ⟨rfl, _, rfl, ch, abc, rfl, rfl, _, eD, ?_, ?_, ?_⟩
      · rw [List.length_map, List.length_map, List.length_take, sizeLine_eq, len_toList]
        omega
      · exact fun b o e => by
          rw [upd_ne (ne_of_none e hD)]
          exact s6 b o e
      · rw [upd_same, take_snoc hch', List.map_append, List.map_append, mem_abc]
        rfl
    · rintro H6 ⟨s6, eD⟩
      rw [show s.cps.size = s.cps.toList.length from rfl, List.take_length] at eD
      refine ⟨D, _, rfl, SqL.of eD, ?_⟩
      have e : ((s.cps.toList.map isLow).all id) = s.cps.toList.all isLow := by
        rw [List.all_map]
        rfl
      rw [e]
      exact k H6 s6
theorem scName : FnScope ["thing"] ["thing"] (defScope sName) := ⟨rfl, rfl, rfl, by decide +kernel, rfl, by decide +kernel, by decide +kernel⟩
theorem ok_name {f : Addr} {fd : FuncData} (F : Fun K "is_name" "is_name" sName f fd) (DS : Df P w K mg base CX0 "is_small" 1 ["text"] spSmall) (T : Cs mg) : FnOk P w K mg base CX0 2 f fd ["thing"] (spP K nameD) := by
  refine F.ok scName (fun vs H Q E h => ?_) (fun cdv A outer s H vs Q E hr h => ?_)
  · obtain ⟨v, d, rfl, _⟩ := h
    rfl
  · obtain ⟨v, d, rfl, hd, fd', k⟩ := h
    obtain ⟨t, hnl⟩ := T.nlet
    refine ⟨_, pss_one (ps_ret (pe_and (pe_callB call_isi (by rfl) T.isi boot_isinstance (pa_cons (pv 0) (pa_cons (pe_bltn (v := .ty "str") (by rfl) T.str boot_str rfl) pa_nil)))
      (pe_and (pe_chain op_le op_le pe_int (pe_callB call_len (by rfl) T.len PySem.boot_len (pa_cons (pv 0) pa_nil)) (pe_glob (v := .int 8) (by rfl) hnl ⟨_, rfl⟩))
      (pe_one (pe_df DS hr pass0 (pa_cons (pv 0) pa_nil)))))), ?_⟩
    refine ⟨_, rfl, _, _, _, _, _, rfl, .ty "str", tyx_of hd, kit_str d, _, rfl, ?_⟩
    cases d with
    | str s =>
      have ev : v = .str s := by
        cases hd with
        | dat h => cases h; rfl
      subst ev
      have hl := ok_str fd'
      refine ⟨_, rfl, .str s, s.length, rfl, ⟨by rw [sizeLine_eq]; omega, rfl⟩, _, _, rfl, rfl, _, rfl, ?_⟩
      have hq : ∀ (b : Bool) (H' : Hp), b = nameB s → Same H H' → Q (.bl b) H' := fun b H' e sm => by
        rw [e]
        exact k H' sm
      refine ite2 (fun h1 => ?_) (fun h1 => ?_)
      · refine ⟨_, _, rfl, rfl, _, rfl, ?_⟩
        refine ite2 (fun h2 => ?_) (fun h2 => ?_)
        · refine ⟨_, rfl, s, rfl, by omega, fun H' sm => hq _ H' ?_ sm⟩
          unfold nameB
          rw [decide_eq_true_iff] at h1 h2
          rw [show decide (1 ≤ s.length ∧ s.length ≤ 8) = true from decide_eq_true (by omega), Bool.true_and]
        · refine hq _ H ?_ (Same.refl H)
          unfold nameB
          rw [decide_eq_true_iff] at h1 h2
          rw [show decide (1 ≤ s.length ∧ s.length ≤ 8) = false from decide_eq_false (by omega), Bool.false_and]
      · refine ⟨_, rfl, hq _ H ?_ (Same.refl H)⟩
        unfold nameB
        rw [decide_eq_true_iff] at h1
        rw [show decide (1 ≤ s.length ∧ s.length ≤ 8) = false from decide_eq_false (by omega), Bool.false_and]
    | _ => exact k H (Same.refl H)
def rInT (K : PySem.W.Frag) : R2 := fun x y H Q => ∃ d ds, Dp K H x d ∧ Dp K H y (.tuple ds) ∧ SeqAt.shaped d = true ∧ SeqAt.shaped (.tuple ds) = true ∧ Q (.bl (ds.any fun z => PyData.eqv z d)) H
theorem op_inT {X : Cx} (hu : X.A.units + 65 < cLine) : OpR X (compareOp .In) (rInT X.K) := fun pins s σ H x y v u Q I rx ry h => by
  obtain ⟨d, ds, hd, he, sd, se, q⟩ := h
  obtain ⟨_, r1⟩ := Dp.reads I d x v hd rx
  obtain ⟨_, r2⟩ := Dp.reads I (.tuple ds) y u he ry
  exact SeqAt.in_tuple_reads r2 r1 (by simpa [PyData.canLay0] using SeqAt.canLay_of_shaped se) (SeqAt.canLay_of_shaped sd) (room_in_shaped sd hu) ⟨.bl _, H, I, rfl, q⟩
theorem units65 {k : Nat} {A : Around} (r : Room k A) : A.units + 65 < cLine := by
  have := r.un
  omega
theorem scSign : FnScope ["thing", "name", "kind", "many"] ["thing"] (defScope sSign) := ⟨rfl, rfl, rfl, by decide +kernel, rfl, by decide +kernel, by decide +kernel⟩
theorem ok_sign {f : Addr} {fd : FuncData} (F : Fun K "is_sign" "is_sign" sSign f fd) (DN : Df P w K mg base CX0 "is_name" 2 ["thing"] (spP K nameD)) (DM : Df P w K mg base CX0 "is_number" 1 ["thing"] (spP K numD)) (T : Cs mg) : FnOk P w K mg base CX0 3 f fd ["thing"] (spP K signD) := by
  refine F.ok scSign (fun vs H Q E h => ?_) (fun cdv A outer s H vs Q E hr h => ?_)
  · obtain ⟨v, d, rfl, _⟩ := h
    rfl
  · obtain ⟨v, d, rfl, hd, fd', k⟩ := h
    obtain ⟨t, hmp⟩ := T.mpla
    refine ⟨_, pss_cons (ps_if (PW.pt (pw_or (pt_not (pt_val (pe_callB call_isi (by rfl) T.isi boot_isinstance (pa_cons (pv 0) (pa_cons (pe_bltn (v := .ty "tuple") (by rfl) T.tuple boot_tuple rfl) pa_nil))))) (pw_or1 (pt_cmpR op_ne (pe_callB call_len (by rfl) T.len PySem.boot_len (pa_cons (pv 0) pa_nil)) pe_int (nomark _))))) (pss_one (ps_ret pe_bl)) pss_nil)
      (pss_cons (ps_asg (pv 0) (pg_tup rfl (pgs_cons (pg_name (i := 1) scSign.nd rfl (Or.inl rfl)) (pgs_cons (pg_name (i := 2) scSign.nd rfl (Or.inl rfl)) (pgs_cons (pg_name (i := 3) scSign.nd rfl (Or.inl rfl)) pgs_nil)))))
      (pss_cons (ps_if (PW.pt (pw_or (pt_not (pt_val (pe_df DN hr pass0 (pa_cons (pv 1) pa_nil)))) (pw_or1 (pt_not (pt_val (pe_df DM hr pass0 (pa_cons (pv 3) pa_nil))))))) (pss_one (ps_ret pe_bl)) pss_nil)
      (pss_cons (ps_if (pt_cmpR (op_eqD hr.units) (pv 2) pe_str (nomark _)) (pss_one (ps_ret (pe_chain op_le op_le pe_int (pv 3) (pe_glob (v := .int 4) (by rfl) hmp ⟨_, rfl⟩)))) pss_nil)
      (pss_one (ps_ret (pe_and (pe_cmpR (op_inT (units65 hr)) (pv 2) (pe_tup (pa_cons pe_str (pa_cons pe_str (pa_cons pe_str pa_nil)))) (by rfl)) (pe_one (pe_cmpR op_eq (pv 3) pe_int (nomark _))))))))), ?_⟩
    refine ⟨_, rfl, _, _, _, _, _, rfl, .ty "tuple", tyx_of hd, kit_tup d, _, rfl, ?_⟩
    cases d with
    | tuple ds =>
      cases hd with
      | dat hd =>
        cases hd with
        | tup ht ha =>
          rename_i a xs
          have hlen := dpAll_len ha
          have hb := (ok_tup fd').1
          refine ⟨_, rfl, .ref a, ds.length, rfl, .inr ⟨xs, ht, hlen.symm⟩, rfl, _, rfl, ?_⟩
          refine ite2 (fun h3 => ?_) (fun h3 => ?_)
          · have e : false = signD (.tuple ds) := (signD_len fun h4 => by
              rw [h4] at h3
              exact absurd h3 (by decide)).symm
            show Q (.bl false) H
            rw [e]
            exact k H (Same.refl H)
          · have h3' : ds.length = 3 := by
              have h4 : ¬ (!decide (V.int (ds.length : Int) = V.int 3)) = true := h3
              have h5 : V.int (ds.length : Int) = V.int 3 := by simpa using h4
              have h6 : (ds.length : Int) = 3 := V.int.inj h5
              omega
            obtain ⟨dn, dk, dm, vn, vk, vm, rfl, rfl, an, ak, am⟩ := three ha h3'
            have on := tup_at (i := 0) fd' rfl
            have okk := tup_at (i := 1) fd' rfl
            have om := tup_at (i := 2) fd' rfl
            have hq : ∀ (b : Bool) (H' : Hp), b = signD (.tuple [dn, dk, dm]) → Same H H' → Q (.bl b) H' := fun b H' e sm => by
              rw [e]
              exact k H' sm
            refine ⟨_, rfl, a, _, rfl, ht, rfl, _, _, rfl, _, _, rfl, _, _, rfl, rfl, ?_⟩
            refine ⟨_, rfl, vn, dn, rfl, .dat an, on.1, fun H1 s1 => ⟨_, rfl, ?_⟩⟩
            refine ite2 (fun hn => ?_) (fun hn => ?_)
            · refine hq false H1 ?_ s1
              have hn' : nameD dn = false := by simpa using hn
              cases dm <;> first | rfl | (show false = (nameD dn && _); rw [hn', Bool.false_and])
            · have hn' : nameD dn = true := by
                have h0 : ¬ (!nameD dn) = true := hn
                simpa using h0
              refine ⟨_, rfl, vm, dm, rfl, .dat (dp_same s1 _ _ am), om.1, fun H2 s2 => ⟨_, rfl, ?_⟩⟩
              have s12 := s1.trans s2
              refine ite2 (fun hm => ?_) (fun hm => ?_)
              · refine hq false H2 ?_ s12
                have hm' : numD dm = false := by simpa using hm
                exact (signD_num hm').symm
              · have hm' : numD dm = true := by
                  have h0 : ¬ (!numD dm) = true := hm
                  simpa using h0
                cases dm with
                | int m =>
                  cases am
                  refine ⟨_, rfl, dk, .str (Str.ofString "plain"), dp_same s12 _ _ ak, .str _, okk.2, by decide +kernel, _, rfl, ?_⟩
                  refine ite2 (fun hp => ?_) (fun hp => ?_)
                  · have es := signD_plain (k := dk) (m := m) hn' hp
                    refine ⟨_, rfl, _, _, rfl, rfl, _, rfl, ?_⟩
                    refine ite2 (fun h1 => ?_) (fun h1 => ?_)
                    · refine ⟨_, _, rfl, rfl, hq _ H2 ?_ s12⟩
                      rw [es]
                      rw [decide_eq_true_iff] at h1
                      by_cases h2 : m ≤ 4
                      · rw [decide_eq_true h2, decide_eq_true ⟨h1, h2⟩]
                      · rw [decide_eq_false h2, decide_eq_false (fun z => h2 z.2)]
                    · refine hq _ H2 ?_ s12
                      rw [es]
                      rw [decide_eq_true_iff] at h1
                      rw [decide_eq_false (fun z => h1 z.1)]
                  · have es := signD_kind (k := dk) (m := m) hn' hp
                    refine ⟨_, rfl, (by show 3 ≤ sizeLine; decide), fun p hp2 => ⟨dk, [.str "pair", .str "row", .str "heap"], dp_same (Same.new s12 hp2) _ _ ak, .tup (SqT.of upd_same) (.cons (.str _) (.cons (.str _) (.cons (.str _) .nil))), okk.2, by decide +kernel, _, rfl, ?_⟩⟩
                    refine ite2 (fun hk => ?_) (fun hk => ?_)
                    · refine ⟨_, rfl, rfl, hq _ _ ?_ (Same.new s12 hp2)⟩
                      have hk' : kindsD dk = true := hk
                      rw [es, hk', Bool.true_and]
                      by_cases h2 : m = 2
                      · subst h2
                        rfl
                      · rw [decide_eq_false h2, decide_eq_false (fun z => h2 (V.int.inj z))]
                    · refine hq _ _ ?_ (Same.new s12 hp2)
                      have hk' : kindsD dk = false := by
                        have h0 : ¬ kindsD dk = true := hk
                        simpa using h0
                      rw [es, hk', Bool.false_and]
                | _ => cases hm'
    | _ => exact k H (Same.refl H)
end
end K1
set_option Elab.async false
set_option linter.all false
set_option maxRecDepth 100000
set_option maxHeartbeats 4000000
namespace K1
open PySem PySem.Spec PyProof.Rows L2
abbrev cSigns : Stmt := topS 19
abbrev sInit : Stmt := inClass cSigns 0
abbrev sRows : Stmt := inClass cSigns 1
abbrev sHas : Stmt := inClass cSigns 2
abbrev sKind : Stmt := inClass cSigns 3
abbrev sMany : Stmt := inClass cSigns 4
abbrev sLen : Stmt := inClass cSigns 5
abbrev sEq : Stmt := inClass cSigns 6
/-- the fields of signs, as __init__ stores them -/
def sgF (rt td : Addr) : List (Str × V) := putF "_table" (.ref td) (putF "_rows" (.ref rt) [])
theorem n_tr : ¬ (("_table" : Str) = "_rows") := by decide +kernel
theorem n_rt : ¬ (("_rows" : Str) = "_table") := by decide +kernel
theorem sgF_rows (rt td : Addr) : (sgF rt td).lookup ("_rows" : Str) = some (.ref rt) := by
  unfold sgF
  rw [lookup_putF, if_neg n_rt, lookup_putF, if_pos rfl]
theorem sgF_table (rt td : Addr) : (sgF rt td).lookup ("_table" : Str) = some (.ref td) := by
  unfold sgF
  rw [lookup_putF, if_pos rfl]
theorem sgF_no (rt td : Addr) {m : Str} (h1 : ¬ m = "_table") (h2 : ¬ m = "_rows") : (sgF rt td).lookup m = none := by
  unfold sgF
  rw [lookup_putF, if_neg h1, lookup_putF, if_neg h2]
  rfl
def nameOf : PyData → Str
  | .tuple (.str s :: _) => s
  | _ => Str.empty
def itemsD : PyData → List PyData
  | .list ds => ds
  | .tuple ds => ds
  | _ => []
def goRows : List PyData → List Str → Bool
  | [], _ => true
  | d :: ds, seen => signD d && (!decide (nameOf d ∈ seen) && goRows ds (seen ++ [nameOf d]))
def signsD (d : PyData) : Bool := listD d && (decide (1 ≤ (itemsD d).length ∧ (itemsD d).length ≤ 24) && goRows (itemsD d) [])
theorem signD_shape {d : PyData} (h : signD d = true) : ∃ s k m, d = .tuple [.str s, k, .int m] ∧ nameB s = true := by
  unfold signD at h
  split at h
  · rename_i n k m
    have hn := (Bool.and_eq_true_iff.mp h).1
    cases n with
    | str s => exact ⟨s, k, m, rfl, hn⟩
    | _ => cases hn
  · cases h
theorem go_nd : ∀ (ds : List PyData) (seen : List Str), goRows ds seen = true → seen.Nodup → (seen ++ ds.map nameOf).Nodup
  | [], seen, _, hn => by simpa using hn
  | d :: ds, seen, h, hn => by
    obtain ⟨_, h2⟩ := Bool.and_eq_true_iff.mp h
    obtain ⟨h3, h4⟩ := Bool.and_eq_true_iff.mp h2
    have hni : nameOf d ∉ seen := by simpa using h3
    have ih := go_nd ds (seen ++ [nameOf d]) h4 (by
      rw [List.nodup_append]
      refine ⟨hn, by simp, fun a ha b hb => ?_⟩
      rw [List.mem_singleton.mp hb]
      exact fun e => hni (e ▸ ha))
    rw [List.append_assoc] at ih
    exact ih
theorem go_all : ∀ (ds : List PyData) (seen : List Str), goRows ds seen = true → ∀ d ∈ ds, signD d = true
  | d :: ds, seen, h, e, he => by
    obtain ⟨h1, h2⟩ := Bool.and_eq_true_iff.mp h
    obtain ⟨_, h4⟩ := Bool.and_eq_true_iff.mp h2
    rcases List.mem_cons.mp he with rfl | he
    · exact h1
    · exact go_all ds _ h4 e he
/-- the table of these names -/
def kvsOf (ns : List Str) (xs : List V) : List (Key × V) := (ns.map Sum.inr).zip xs
theorem val_kvs (n : Str) : ∀ (ns : List Str) (xs : List V), ns.length = xs.length → (valV (kvsOf ns xs) (Sum.inr n : Key)).isSome = decide (n ∈ ns)
  | [], [], _ => by simp [kvsOf, valV]
  | a :: ns, x :: xs, h => by
    have ih := val_kvs n ns xs (by simpa using h)
    show (valV ((Sum.inr a, x) :: kvsOf ns xs) (Sum.inr n : Key)).isSome = _
    by_cases e : a = n
    · rw [valV_pos (p := ((Sum.inr a : Key), x)) (by rw [e])]
      simp [e]
    · rw [valV_neg (p := ((Sum.inr a : Key), x)) (fun z => e (Sum.inr.inj z)), ih]
      simp [Ne.symm e]
theorem kvs_snoc {ns : List Str} {xs : List V} (h : ns.length = xs.length) (n : Str) (x : V) : kvsOf (ns ++ [n]) (xs ++ [x]) = kvsOf ns xs ++ [(Sum.inr n, x)] := by
  unfold kvsOf
  rw [List.map_append, List.zip_append (by rw [List.length_map]; exact h)]
  rfl
/-- signs of the rows xs stand at p, their names ns -/
structure SgAt (K : PySem.W.Frag) (C : Addr) (H : Hp) (p rt td : Addr) (xs : List V) (ns : List Str) : Prop where
  ob : ∃ dx, H p = some (.ins C dx (sgF rt td))
  rt : SqT K H rt xs
  td : H td = some (.dK (kvsOf ns xs))
  len : ns.length = xs.length
  nd : ns.Nodup
/-- an own error without fields -/
structure XC (K : PySem.W.Frag) (mg : Str → Option Value) (x : Str) (C : Addr) : Prop where
  g : mg x = some (.ref C)
  exc : PySem.W.excIn K C [.type "ValueError", .type "Exception", .type "BaseException", .type "object"] "ValueError.__new__" = true
  kp : PySem.W.keepIn K (.ref C) = true
  sub : PySem.W.subIn K (.ref C) (.type "BaseException") = some true
  ty : PySem.W.typeIn K (.ref C) = some (.type "type")
/-- the class Signs -/
structure SgC (K : PySem.W.Frag) (C : Addr) : Prop where
  cl : Cls K C
  nR : NoAttr K C "_rows"
  nT : NoAttr K C "_table"
def iSeq (K : PySem.W.Frag) (tl : TE) : TI := fun σ H R => tl σ H fun x H1 => ∃ (a : Addr) (xs : List V), x = .ref a ∧ (SqL K H1 a xs ∨ SqT K H1 a xs) ∧ ∀ (J : It) (G : Hp → Prop), (∀ H', (SqL K H1 a xs → SqL K H' a xs) → (SqT K H1 a xs → SqT K H' a xs) → G H') → Walk J xs.length G (YAt xs) → R J H1
theorem sqt_same {K : PySem.W.Frag} {H H' : Hp} {a : Addr} {xs : List V} (s : Same H H') (h : SqT K H a xs) : SqT K H' a xs := by
  rcases h with (h | ⟨o, h⟩) | h
  · exact .inl (.inl (s _ _ h))
  · exact .inl (.inr ⟨o, s _ _ h⟩)
  · exact .inr h
theorem sql_off {K : PySem.W.Frag} {H1 H' : Hp} {td a : Addr} {z : List (Key × V)} {xs : List V} (s : Same H1 H') (h : SqL K (upd H1 td (.dK z)) a xs) : SqL K H' a xs := by
  have key : ∀ u, upd H1 td (.dK z) a = some u → u ≠ .dK z → H' a = some u := fun u e n => by
    by_cases q : a = td
    · rw [q, upd_same] at e
      exact absurd (Option.some.inj e).symm n
    · rw [upd_ne q] at e
      exact s _ _ e
  rcases h with (h | ⟨o, h⟩) | h
  · exact .inl (.inl (key _ h (by intro q; cases q)))
  · exact .inl (.inr ⟨o, key _ h (by intro q; cases q)⟩)
  · exact .inr h
theorem sqt_off {K : PySem.W.Frag} {H1 H' : Hp} {td a : Addr} {z : List (Key × V)} {xs : List V} (s : Same H1 H') (h : SqT K (upd H1 td (.dK z)) a xs) : SqT K H' a xs := by
  have key : ∀ u, upd H1 td (.dK z) a = some u → u ≠ .dK z → H' a = some u := fun u e n => by
    by_cases q : a = td
    · rw [q, upd_same] at e
      exact absurd (Option.some.inj e).symm n
    · rw [upd_ne q] at e
      exact s _ _ e
  rcases h with (h | ⟨o, h⟩) | h
  · exact .inl (.inl (key _ h (by intro q; cases q)))
  · exact .inl (.inr ⟨o, key _ h (by intro q; cases q)⟩)
  · exact .inr h
theorem pi_seq {X : Cx} {tg : Expr} {i : Nat} {x : Str} {pos : Pos} (hl : PE X (.Name x pos) (tVar i)) : PI X tg (.Name x pos) (iSeq X.K (tVar i)) := by
  refine ⟨fun pins s σ H R I h => ?_⟩
  obtain ⟨v, e, a, xs, ev, h, hr⟩ := h
  rcases h with hx | hx
  · exact (pi_list hl).run pins s σ H R I ⟨v, e, a, ev, ⟨xs, hx⟩, hr (Itl X.K a) (fun H' => SqL X.K H' a xs) (fun H' z _ => z hx) walk_list⟩
  · exact (pi_tup hl).run pins s σ H R I ⟨v, e, a, ev, ⟨xs, hx⟩, hr (Itt X.K a) (fun H' => SqT X.K H' a xs) (fun H' _ z => z hx) walk_tup⟩
theorem seq_of {K : PySem.W.Frag} {H : Hp} {v : V} {d : PyData} (h : Dm K H v d) (hl : listD d = true) : ∃ a xs, v = .ref a ∧ (SqL K H a xs ∨ SqT K H a xs) ∧ DpAll K H xs (itemsD d) := by
  cases h with
  | dat h =>
    cases h with
    | lst hs ha => exact ⟨_, _, rfl, .inl hs, ha⟩
    | tup hs ha => exact ⟨_, _, rfl, .inr hs, ha⟩
    | _ => cases hl
  | dic h => cases hl
theorem items_ok {d : PyData} (h : okD d = true) (hl : listD d = true) : (itemsD d).length ≤ 1000 ∧ ∀ (i : Nat) (e : PyData), (itemsD d)[i]? = some e → okD e = true ∧ SeqAt.shaped e = true := by
  cases d with
  | list ds => exact ⟨(ok_lst h).1, fun i e he => lst_at h he⟩
  | tuple ds => exact ⟨(ok_tup h).1, fun i e he => tup_at h he⟩
  | _ => cases hl
theorem dp_at' {K : PySem.W.Frag} {H : Hp} {xs : List V} {ds : List PyData} {i : Nat} {x : V} (h : DpAll K H xs ds) (hx : xs[i]? = some x) : ∃ d, ds[i]? = some d ∧ Dp K H x d := dpAll_at h hx
theorem row_of {K : PySem.W.Frag} {H : Hp} {x : V} {s : Str} {k m : PyData} (h : Dp K H x (.tuple [.str s, k, m])) : ∃ b vk vm, x = .ref b ∧ SqT K H b [.str s, vk, vm] ∧ Dp K H vk k ∧ Dp K H vm m := by
  cases h with
  | tup ht ha =>
    obtain ⟨a1, r, rfl, h1, t1⟩ := one_more ha
    obtain ⟨a2, r, rfl, h2, t2⟩ := one_more t1
    obtain ⟨a3, r, rfl, h3, t3⟩ := one_more t2
    cases no_more t3
    cases h1
    exact ⟨_, a2, a3, rfl, ht, h2, h3⟩
mutual
/-- an instance's fields may change: data stays -/
theorem dp_off {K : PySem.W.Frag} {H : Hp} {p C dx : Addr} {f1 f2 f3 : List (Str × V)} (hp : H p = some (.ins C dx f1)) : ∀ (d : PyData) (v : V), Dp K H v d → Dp K (upd (upd H p (.ins C dx f2)) p (.ins C dx f3)) v d
  | .none, _, .non => .non
  | .bool _, _, .bl b => .bl b
  | .int _, _, .int i => .int i
  | .str _, _, .str x => .str x
  | .list ds, _, .lst h a => .lst (by
      rcases h with (h | ⟨o, h⟩) | h
      · exact .inl (.inl (by rw [upd_ne (fun q => by rw [q, hp] at h; cases h), upd_ne (fun q => by rw [q, hp] at h; cases h)]; exact h))
      · exact .inl (.inr ⟨o, by rw [upd_ne (fun q => by rw [q, hp] at h; cases h), upd_ne (fun q => by rw [q, hp] at h; cases h)]; exact h⟩)
      · exact .inr h) (dpAll_off hp ds _ a)
  | .tuple ds, _, .tup h a => .tup (by
      rcases h with (h | ⟨o, h⟩) | h
      · exact .inl (.inl (by rw [upd_ne (fun q => by rw [q, hp] at h; cases h), upd_ne (fun q => by rw [q, hp] at h; cases h)]; exact h))
      · exact .inl (.inr ⟨o, by rw [upd_ne (fun q => by rw [q, hp] at h; cases h), upd_ne (fun q => by rw [q, hp] at h; cases h)]; exact h⟩)
      · exact .inr h) (dpAll_off hp ds _ a)
theorem dpAll_off {K : PySem.W.Frag} {H : Hp} {p C dx : Addr} {f1 f2 f3 : List (Str × V)} (hp : H p = some (.ins C dx f1)) : ∀ (ds : List PyData) (vs : List V), DpAll K H vs ds → DpAll K (upd (upd H p (.ins C dx f2)) p (.ins C dx f3)) vs ds
  | [], _, .nil => .nil
  | d :: ds, _, .cons h t => .cons (dp_off hp d _ h) (dpAll_off hp ds _ t)
end
/-- what is made of signs: all but the new object's own fields stands -/
def spInit (K : PySem.W.Frag) (C CN : Addr) : Sp := fun vs H Q E => ∃ (p dx : Addr) (v : V) (d : PyData), vs = [.ref p, v] ∧ H p = some (.ins C dx []) ∧ Dm K H v d ∧ okD d = true ∧
  (signsD d = true → ∀ (rt td : Addr) (xs : List V) (H' : Hp), SgAt K C H' p rt td xs ((itemsD d).map nameOf) → DpAll K H' xs (itemsD d) → H td = none → (∀ b o, H b = some o → b ≠ p → H' b = some o) → Q .non H') ∧
  (signsD d = false → ∀ H', Same H H' → E (.ref CN) none H')
section
variable {P : Program} {w : World} {K : PySem.W.Frag} {mg : Str → Option Value} {base : Heap}
theorem scI : FnScope ["self", "rows", "table", "row"] ["self", "rows"] (defScope sInit) := ⟨rfl, rfl, rfl, by decide +kernel, rfl, by decide +kernel, by decide +kernel⟩
theorem ok_init {f C CN : Addr} {fd : FuncData} (F : Fun K "__init__" "Signs.__init__" sInit f fd) (DL : Df P w K mg base CX0 "is_list" 1 ["thing"] (spP K listD)) (DS : Df P w K mg base CX0 "is_sign" 3 ["thing"] (spP K signD)) (T : Cs mg) (N : XC K mg "NoSigns" CN) (G : SgC K C) : FnOk P w K mg base (L2.CX P w) 5 f fd ["self", "rows"] (spInit K C CN) := by
  refine F.okX scI (fun vs H Q E h => ?_) (fun cdv A outer s H vs Q E hr h => ?_)
  · obtain ⟨p, dx, v, d, rfl, _⟩ := h
    rfl
  · obtain ⟨p, dx, v, d, rfl, hp, hd, od, kY, kN⟩ := h
    obtain ⟨t, hms⟩ := T.msig
    have hu' := hu_of hr
    have hr3 : Room 3 _ := hr.mono (by decide)
    refine ⟨_, pss_cons (ps_if (PW.pt (pw_or (pt_not (pt_val (pe_df DL hr pass0 (pa_cons (pv 1) pa_nil)))) (pw_or1 (pt_not (pt_chain op_le op_le pe_int (pe_callB call_len (by rfl) T.len PySem.boot_len (pa_cons (pv 1) pa_nil)) (pe_glob (v := .int 24) (by rfl) hms ⟨_, rfl⟩))))))
        (pss_one (ps_raise rfl (takes_of rfl rfl rfl rfl) (pmk_own PySem.F.excBase_ValueError N.exc N.g N.kp (raises_own N.sub N.ty) rfl))) pss_nil)
      (pss_cons (ps_set (i := 2) scI.nd rfl (Or.inl rfl) pe_dnewK)
      (pss_cons (ps_for (passes_of rfl) rfl (pi_seq (pv 1)) (pg_name (i := 3) scI.nd rfl (Or.inl rfl))
        (pss_cons (ps_if (PW.pt (pw_or (pt_not (pt_val (pe_df DS hr pass0 (pa_cons (pv 3) pa_nil)))) (pw_or1 (pt_cmp (pc_din hu' (pe_ix ix_tup (pv 3) pe_int (fun _ _ => rfl)) (pv 2))))))
          (pss_one (ps_raise rfl (takes_of rfl rfl rfl rfl) (pmk_own PySem.F.excBase_ValueError N.exc N.g N.kp (raises_own N.sub N.ty) rfl))) pss_nil)
        (pss_one (ps_dput hu' (pv 2) (pe_ix ix_tup (pv 3) pe_int (fun _ _ => rfl)) (pv 3) rfl))))
      (pss_cons (ps_fld (pv 0) (pe_callTy call_tuple_of (by rfl) T.tuple boot_tuple (pa_cons (pv 1) pa_nil)) rfl)
      (pss_one (ps_fld (pv 0) (pv 2) rfl))))), ?_⟩
    refine ⟨_, rfl, v, d, rfl, hd, od, fun H1 s1 => ⟨_, rfl, ?_⟩⟩
    refine ite2 (fun hl => ?_) (fun hl => ?_)
    · have hl' : listD d = false := by simpa using hl
      exact kN (by unfold signsD; rw [hl', Bool.false_and]) H1 s1
    · have hl' : listD d = true := by
        have h0 : ¬ (!listD d) = true := hl
        simpa using h0
      obtain ⟨a, xs, rfl, hS, hA⟩ := seq_of (hd.same s1) hl'
      have hlen := dpAll_len hA
      obtain ⟨l1, ok1⟩ := items_ok od hl'
      have sd : signsD d = (decide (1 ≤ (itemsD d).length ∧ (itemsD d).length ≤ 24) && goRows (itemsD d) []) := by
        unfold signsD
        rw [hl', Bool.true_and]
      refine ⟨_, rfl, .ref a, xs.length, rfl, hS.elim (fun z => .inl ⟨_, z, rfl⟩) (fun z => .inr ⟨_, z, rfl⟩), _, _, rfl, rfl, _, rfl, ?_⟩
      refine ite2 (fun h1 => ?_) (fun h1 => ?_)
      · refine ⟨_, _, rfl, rfl, _, rfl, ?_⟩
        refine ite2 (fun h2 => ?_) (fun h2 => ?_)
        · refine kN ?_ H1 s1
          have h2' : ¬ ((xs.length : Int) ≤ 24) := by simpa using h2
          rw [sd, decide_eq_false (fun z => h2' (by omega)), Bool.false_and]
        · have hb : 1 ≤ (itemsD d).length ∧ (itemsD d).length ≤ 24 := by
            have h1' : (1 : Int) ≤ xs.length := by simpa using h1
            have h2' : (xs.length : Int) ≤ 24 := by simpa using h2
            omega
          have sd' : signsD d = goRows (itemsD d) [] := by
            rw [sd, decide_eq_true hb, Bool.true_and]
          intro td htd
          have npd : ∀ {H' : Hp}, Same H1 H' → H' p = some (.ins C dx []) := fun z => z _ _ (s1 _ _ hp)
          have ntp : td ≠ p := fun z => by rw [z, s1 _ _ hp] at htd; cases htd
          refine ⟨_, rfl, a, xs, rfl, hS.elim (fun z => .inl ((Same.new (Same.refl H1) htd).seq z)) (fun z => .inr (sqt_same (Same.new (Same.refl H1) htd) z)), fun J G' hG hW => ?_⟩
          refine for_it hW (fun i σ H' => ∃ v3 : Option V, σ = [some (.ref p), some (.ref a), some (.ref td), v3] ∧ Same H1 H' ∧ H' td = some (.dK (kvsOf (((itemsD d).take i).map nameOf) (xs.take i))) ∧ goRows (itemsD d) [] = goRows ((itemsD d).drop i) (((itemsD d).take i).map nameOf))
            ⟨none, rfl, Same.new (Same.refl H1) htd, upd_same, rfl⟩ ?_ ?_ ?_
          · rintro i σ H' _ ⟨_, _, sm, etd, _⟩
            exact hG H' (sql_off sm) (sqt_off sm)
          · rintro i x σ H' H'' hi ⟨v3, rfl, sm, etd, hg⟩ ⟨rfl, hx⟩
            obtain ⟨di, hdi, hx'⟩ := dp_at' hA hx
            have hDi : (itemsD d).drop i = di :: (itemsD d).drop (i + 1) := by
              obtain ⟨hi2, e⟩ := List.getElem?_eq_some_iff.mp hdi
              rw [List.drop_eq_getElem_cons hi2, e]
            rw [hDi] at hg
            have hg' : goRows (itemsD d) [] = (signD di && (!decide (nameOf di ∈ ((itemsD d).take i).map nameOf) && goRows ((itemsD d).drop (i + 1)) (((itemsD d).take i).map nameOf ++ [nameOf di]))) := hg
            refine ⟨_, rfl, x, di, rfl, .dat (dp_same sm _ _ hx'), (ok1 i di hdi).1, fun H2 s2 => ⟨_, rfl, ?_⟩⟩
            have sm2 := sm.trans s2
            have etd2 := s2 _ _ etd
            refine ite2 (fun hs => ?_) (fun hs => ?_)
            · have hs' : signD di = false := by simpa using hs
              exact kN (by rw [sd', hg', hs', Bool.false_and]) H2 (s1.trans sm2)
            · have hs' : signD di = true := by
                have h0 : ¬ (!signD di) = true := hs
                simpa using h0
              obtain ⟨nm, kk, mm, rfl, hnm⟩ := signD_shape hs'
              obtain ⟨b, vk, vm, rfl, hb, _, _⟩ := row_of hx'
              have hb2 := sqt_same sm2 hb
              refine ⟨_, rfl, b, _, 0, _, rfl, rfl, hb2, atI_nat (j := 0) rfl, _, rfl, td, _, rfl, DGet.k (k := Sum.inr nm) etd2, _, rfl, ?_⟩
              have hll : (((itemsD d).take i).map nameOf).length = (xs.take i).length := by
                rw [List.length_map, List.length_take, List.length_take, hlen]
              rw [val_kvs nm _ _ hll]
              refine ite2 (fun hm => ?_) (fun hm => ?_)
              · exact kN (by rw [sd', hg', hs', Bool.true_and, show nameOf (.tuple [.str nm, kk, .int mm]) = nm from rfl, hm]; rfl) H2 (s1.trans sm2)
              · have hm' : decide (nm ∈ ((itemsD d).take i).map nameOf) = false := by simpa using hm
                refine ⟨_, rfl, _, rfl, _, rfl, b, _, 0, _, rfl, rfl, hb2, atI_nat (j := 0) rfl, td, _, rfl, DPut.k (k := Sum.inr nm) etd2 ?_, _, rfl, ?_, ?_, ?_⟩
                · unfold kvsOf
                  rw [List.length_zip, List.length_map, List.length_map, List.length_take, sizeLine_eq]
                  omega
                · exact fun c o e => by
                    rw [upd_ne (ne_of_none e htd)]
                    exact sm2 c o e
                · have hv : valV (kvsOf (((itemsD d).take i).map nameOf) (xs.take i)) (Sum.inr nm : Key) = none := by
                    have := val_kvs nm _ _ hll
                    rw [hm'] at this
                    simpa using this
                  rw [upd_same, putK_new _ hv, take_snoc hdi, take_snoc hx, List.map_append, show ([PyData.tuple [.str nm, kk, .int mm]] : List PyData).map nameOf = [nm] from rfl, kvs_snoc hll]
                · rw [hg', hs', show nameOf (.tuple [.str nm, kk, .int mm]) = nm from rfl, hm', take_snoc hdi, List.map_append]
                  rfl
          · rintro σ H' ⟨v3, rfl, sm, etd, hg⟩
            have hgT : signsD d = true := by
              rw [sd', hg, List.drop_of_length_le (by omega)]
              rfl
            rw [hlen, List.take_length, ← hlen, List.take_length] at etd
            have fin : ∀ (rt : Addr) (H3 : Hp), Same H' H3 → SqT K H3 rt xs → sFld K (tVar 0) (tVar 2) "_table" { nx := fun _ H' => Q .non H', rt := Q } [some (.ref p), some (.ref a), some (.ref td), v3] (upd H3 p (.ins C dx (putF "_rows" (.ref rt) []))) := by
              intro rt H3 s3 hrt
              have n0 : ∀ (o : HO), (upd H3 p (.ins C dx (putF "_rows" (.ref rt) []))) td = some o ↔ H3 td = some o := fun o => by rw [upd_ne ntp]
              refine ⟨_, rfl, _, rfl, p, C, dx, _, rfl, upd_same, G.cl, G.nT, (by show 1 < 1000; decide), ?_⟩
              have hp3 : H3 p = some (.ins C dx []) := s3 _ _ (npd sm)
              have offL : ∀ {c : Addr} {o : HO}, H3 c = some o → c ≠ p → upd (upd H3 p (.ins C dx (putF "_rows" (.ref rt) []))) p (.ins C dx (putF "_table" (.ref td) (putF "_rows" (.ref rt) []))) c = some o := fun {c o} e n => by
                rw [upd_ne n, upd_ne n]
                exact e
              have offT : ∀ {c : Addr} {ys : List V}, SqT K H3 c ys → SqT K (upd (upd H3 p (.ins C dx (putF "_rows" (.ref rt) []))) p (.ins C dx (putF "_table" (.ref td) (putF "_rows" (.ref rt) [])))) c ys := fun {c ys} z => by
                rcases z with (z | ⟨o, z⟩) | z
                · exact .inl (.inl (offL z (fun q => by rw [q, hp3] at z; cases z)))
                · exact .inl (.inr ⟨o, offL z (fun q => by rw [q, hp3] at z; cases z)⟩)
                · exact .inr z
              refine kY hgT rt td xs _ ⟨⟨dx, upd_same⟩, offT hrt, offL (s3 _ _ etd) ntp, ?_, ?_⟩ ?_ (s1.free htd) ?_
              · rw [List.length_map, hlen]
              · have := go_nd (itemsD d) [] (by rw [← sd']; exact hgT) List.nodup_nil
                simpa using this
              · exact dpAll_off (s3 _ _ (npd sm)) _ _ (dp_sameAll (sm.trans s3) _ _ hA)
              · exact fun c o e n => offL (s3 _ _ (sm _ _ (s1 _ _ e))) n
            rcases hS with hS | hS
            · refine ⟨_, rfl, a, xs, rfl, .inl ⟨sm.seq hS, fun l hl2 => ⟨_, rfl, p, C, dx, [], rfl, Same.new (Same.refl H') hl2 _ _ (npd sm), G.cl, G.nR, (by show 0 < 1000; decide), fin l _ (Same.new (Same.refl H') hl2) (SqT.of upd_same)⟩⟩⟩
            · exact ⟨_, rfl, a, xs, rfl, .inr ⟨sqt_same sm hS, ⟨_, rfl, p, C, dx, [], rfl, npd sm, G.cl, G.nR, (by show 0 < 1000; decide), fin a H' (Same.refl H') (sqt_same sm hS)⟩⟩⟩
      · refine ⟨_, rfl, ?_⟩
        refine kN ?_ H1 s1
        have h1' : ¬ ((1 : Int) ≤ xs.length) := by simpa using h1
        rw [sd, decide_eq_false (fun z => h1' (by omega)), Bool.false_and]
end
end K1
set_option Elab.async false
set_option linter.all false
set_option maxRecDepth 100000
set_option maxHeartbeats 4000000
namespace PySem
namespace NsX
open PySem.W PySem.Calls PyProof.Rows PySem.HandSPX
/-! ### an own error over TurnError over ValueError: its __init__ says super().__init__('..') and stores one field -/
abbrev sNs : Stmt := L2.inClass (K1.topS 3) 0
/-- what the written part says of the class at C, of its base at CT, of its __init__ at fI, and of the cell at cc -/
structure NsTxt (prog : Program) (K : Frag) (C CT fI cc cda : Addr) : Prop where
  cls : ∃ nm q N bs bm sn sub ab col dd k0 k1 k2 k3 k5, K.lookup C = some (excClassObj nm q C N bs bm true sn sub ab col dd k0 k1 k2 k3 k5 "ValueError.__new__") ∧ refsVE bm = true ∧ alongIn K "__init__" bm = some (some (.builtin "ValueError.__init__"))
  sa : findIn K (.ref C) "__setattr__" = some (some (.builtin "object.__setattr__"))
  noN : findIn K (.ref C) "name" = some none
  iC : findIn K (.ref C) "__init__" = some (some (.ref fI))
  tC : typeIn K (.ref fI) = some (.type "function")
  kC : keepIn K (.ref C) = true
  exC : subIn K (.ref C) (.type "BaseException") = some true
  veC : subIn K (.ref C) (.type "ValueError") = some true
  mrC : mroIn K C (.ref C) = some true
  tyC : typeIn K (.ref C) = some (.type "type")
  opq : nsIn K cStatics "thirdparty.any" = some none
  sup : nsIn K mainGlobals "super" = some none
  cell : ∃ cl cld csl, K.lookup cc = some ⟨cl, cld, .cell (some (.ref C)), csl⟩
  code : ∃ ccl cdd vs ccs file tf, K.lookup cda = some ⟨ccl, cdd, .fields vs, ccs⟩ ∧ vs[2]? = some (.str file tf) ∧ ((prog.main.file : Str) == file) = true
  top : (prog.main.scope.names.lookup ("super" : Str)).isSome = false
  fn : ∃ (oc : Value) (od : Option Addr) (doc pm : Value) (an : Option Addr) (ct : Value) (osl : Array (Option Value)),
    K.lookup fI = some ⟨oc, od, .func (ksFn "__init__" "NoSign.__init__" (L2.defArgs sNs) (L2.defBody sNs) (L2.defScope sNs) .none .none doc pm an (.ref cda) ct cc), osl⟩ ∧ codeIn K (.ref cda) "NoSign.__init__" = true
structure NsEnd (h h' : Heap) (x C dx : Addr) (v : Value) : Prop where
  keep : ∀ b o, b ≠ x → h.get? b = some o → h'.get? b = some o
  obj : ∃ t1, h'.get? x = some { cls := .ref C, dict := some dx, data := .fields #[.ref t1, .none, .none, .none, .bool false, .none] }
  dbig : h.objs.size ≤ dx
  dne : dx ≠ x
  ns : h'.Ns1 dx (fun y => if y = "name" then some v else none)
section
variable {prog : Program} {w : World} {A : Around} {E : Value → Shared → Prop} {R : Result → Shared → Prop} {s : Shared} {K : Frag} {mg : Str → Option Value} {C CT fI cc cda : Addr}
theorem bw_call {u x t0 : Addr} {rest : List Value} {Q : Value → Shared → Prop} {nm q : Str} {N : Addr} {bs bm : List Value} {hdct : Bool} {sn : List Str} {sub : List Value} {ab : Bool} {col : Option Bool} {dd : Option Addr} {k0 k1 k2 k3 k5 : Option Value}
    (hC : s.heap.get? C = some (excClassObj nm q C N bs bm hdct sn sub ab col dd k0 k1 k2 k3 k5 "ValueError.__new__")) (hx : s.heap.get? x = some (excO C t0)) (hu : s.heap.get? u = some (kxs_mw "ValueError.__init__" x)) (hz : rest.length ≤ sizeLine)
    (hq : ∀ h' t1, (∀ b o, b ≠ x → s.heap.get? b = some o → h'.get? b = some o) → h'.get? x = some (excO C t1) → Q .none { s with heap := h' }) :
    wpAny (model prog w) A (call (.ref u) rest) Q E s := by
  obtain ⟨hh, g, d, tk, os⟩ := s
  refine wpAny_call (codeAny_of_tree ?_)
  show wpAny _ A.in1 (callAny (.ref u) ⟨rest, []⟩) _ _ _
  simp only [callAny]
  refine wpAny_bind (wpAny_load hu ?_)
  simp only [kxs_mw, show (Value.type "method-wrapper" == Value.type "method" || Value.type "method-wrapper" == Value.type "builtin_function_or_method" || Value.type "method-wrapper" == Value.type "method-wrapper") = true by decide, if_true]
  refine KFB.if_so (by decide) ?_
  refine wpAny_bind (check_bound_init PySem.F.excBase_ValueError.toExcCallFacts hC hx rfl ?_)
  refine wpAny_bind (wpAny_pure (wpAny_pure ?_))
  refine ⟨plainId_quiet PySem.F.excBase_ValueError.init.plain _, codeAny_builtin PySem.F.excBase_ValueError.initEntry ?_⟩
  exact exc_init_tree (cls := .ref C) (t0 := t0) (dv := none) (c2 := .none) (c3 := .none) (b4 := .bool false) hx hz (fun h' k e' _ => hq h' _ k e')
theorem ns_init (T : NsTxt prog K C CT fI cc cda) {x t0 : Addr} {v : Value} {mb : Str → Option Value} (X : K.In s.heap) (G : s.heap.Ns mainGlobals mg) (GB : s.heap.Ns builtinsNs mb) (hB : ∀ y : Str, y ≠ "__name__" → mb y = bootBuiltins y) (hlim : s.heap.NoLimit) (hx : s.heap.get? x = some (excO C t0)) (hnx : K.lookup x = none) (hroom : A.depth < recursionLimit)
    (hq : ∀ h' tk dx, NsEnd s.heap h' x C dx v → R (.ok (.ret .none)) { s with heap := h', toks := tk }) :
    codeAny (model prog w) A (.call (.ref fI) ⟨[.ref x, v], []⟩) R s := by
  obtain ⟨oc, od, doc, pm, an, ct, osl, ho, hcd⟩ := T.fn
  obtain ⟨nm, q, N, bs, bm, sn, sub, ab, col, dd, k0, k1, k2, k3, k5, hC, hbm, hal⟩ := T.cls
  obtain ⟨cl, cld, csl, hcell⟩ := T.cell
  obtain ⟨ccl, cdd, vs, ccs, file, tf, hcode, hvs, hfile⟩ := T.code
  have hcl : clsIn K C = some { name := nm, bases := bs, mro := .ref C :: bm, ns := N, qualname := q, hasDict := true, slotNames := sn, subclasses := sub, abstract := ab, collection := col, hasDel := false } := by unfold clsIn; rw [hC] <;> rfl
  refine ks_codeAny_call_defAt (body := L2.defBody sNs) (binds := [("self", .ref x), ("name", v)]) hroom (X _ _ ho) rfl hlim (codeRec_of X hcd) rfl (BindsTo.of_eq (by first | rfl | with_unfolding_all rfl)) (show ∀ y ∈ (L2.defScope sNs).names, y.2 ≠ .cell by decide +kernel) (by first | decide | (intro y hy; simp at hy; rcases hy with rfl | rfl <;> rfl)) (fun h₁ hns k => ?_)
  have X₁ : K.In h₁ := X.keeps k
  have hx₁ := k _ _ hx
  refine ks_wpAt_execs_cons (ks_wpAt_Expr_any (ks_wpAt_MethodCall ?_))
  have hk : (L2.defScope sNs).kind = .function := rfl
  have hsup : mg "super" = none := mg_none_of X G T.sup
  have G₁ := G.keeps k
  have GB₁ := GB.keeps k
  obtain ⟨oD, hD1, hD2⟩ : ∃ oD, h₁.get? C = some oD ∧ oD.data = .cls { name := nm, bases := bs, mro := .ref C :: bm, ns := N, qualname := q, hasDict := true, slotNames := sn, subclasses := sub, abstract := ab, collection := col, hasDel := false } := ⟨_, X₁ _ _ hC, rfl⟩
  refine ks_wpAt_super_base rfl rfl (by decide) rfl (X₁ _ _ ho) rfl rfl rfl (X₁ _ _ hcode) rfl hvs hfile T.top ?_
  refine ks_loadName_global hk rfl (loadGlobal_builtin G₁ hsup GB₁ ((hB _ (by decide +kernel)).trans (by first | boot_by_name | rfl | kernel_rfl)) ⟨rfl, ?_⟩)
  refine wpAny_loadName_free hk rfl rfl ⟨_, X₁ _ _ hcell, rfl⟩ ?_
  refine wpAny_loadName_local hk rfl hns rfl ?_
  refine ks_wpAny_isType_cls hD1 hD2 ⟨rfl, ?_⟩
  refine ks_wpAny_call_super hD1 hD2 hx₁ rfl (fun c e => by cases e) (looks_mroIn X₁ T.mrC) (fun h₂ e₂ k₂ => ?_)
  have X₂ : K.In h₂ := X₁.keeps k₂
  have hx₂ := k₂ _ _ hx₁
  have I₂ : InstAt h₂ x (excO C t0) C none := ⟨hx₂, rfl, rfl, trivial⟩
  refine kxs_getMethod kxs_ValueError e₂ (looks_opaque X₂ T.opq) (l₀ := .ref C :: bm) (l := bm) (fun A Q E s k q => wpAny_bind ((looks_clsIn X₂ hcl) A _ E s k (wpAny_pure q))) (by simp [List.dropWhile_cons]) X₂ hal (I₂.type.andThen (looks_subIn X₂ T.veC)) (ks_ne X₂ I₂ hcl) (by decide) ?_
  refine kxs_callWith (i := "ValueError.__init__") (x := x) rfl (evalArgs_plain ?_)
  refine Calls.spliced_cons ?_
  show wpAny _ _ (eval (.Constant (.str "there is no sign of that name") 0 ⟨9, 25, 9, 56⟩) _) _ _ _
  refine Calls.Constant_str ?_
  show wpAny _ _ (spliced []) _ _ _
  refine Calls.spliced_nil ⟨Heap.get?_push_size _ rfl, ?_⟩
  have kp : ∀ b o, h₂.get? b = some o → (h₂.push (kxs_mw "ValueError.__init__" x)).get? b = some o := fun b o e => Heap.get?_push_of_some _ e
  refine bw_call (x := x) (t0 := t0) ((X₂.keeps kp) _ _ hC) (kp _ _ hx₂) (Heap.get?_push_size _ rfl) (by show 1 ≤ sizeLine; decide) (fun h₃ t1 k₃ hx₃ => ?_)
  have k13 : ∀ b o, b ≠ x → h₁.get? b = some o → h₃.get? b = some o := fun b o n e => k₃ b o n (kp b o (k₂ b o e))
  have X₃ : K.In h₃ := fun b o e => k₃ b o (fun z => by rw [z, hnx] at e; cases e) (kp b o (X₂ b o e))
  have nL : s.heap.objs.size ≠ x := Nat.ne_of_gt (Heap.lt_size hx)
  have hns₃ : h₃.Ns s.heap.objs.size (fun y => ([("self", .ref x), ("name", v)] : List (Str × Value)).reverse.lookup y) := by
    obtain ⟨o, es, ep, e, r⟩ := hns
    exact ⟨o, es, ep, k13 _ _ nL e, r⟩
  refine ks_wpAt_execs_cons (ks_wpAt_Assign_Attr ?_)
  have ld : ∀ {y : Str} {pos : Pos} {u : Value} {A : Around} {E : Value → Shared → Prop} {Q : Value → Shared → Prop} {g : Array GenState} {d : Drawn} {t : Nat} {os : OsState}, (callEnv (ksFn "__init__" "NoSign.__init__" (L2.defArgs sNs) (L2.defBody sNs) (L2.defScope sNs) .none .none doc pm an (.ref cda) ct cc) s.heap.objs.size fI).kindOf y = some .local →
      ([("self", .ref x), ("name", v)] : List (Str × Value)).reverse.lookup y = some u → (y == ("__debug__" : Str)) = false → Q u ⟨h₃, g, d, t, os⟩ →
      wpAny (model prog w) A (eval (.Name y pos) (callEnv (ksFn "__init__" "NoSign.__init__" (L2.defArgs sNs) (L2.defBody sNs) (L2.defScope sNs) .none .none doc pm an (.ref cda) ct cc) s.heap.objs.size fI)) Q E ⟨h₃, g, d, t, os⟩ :=
    fun h1 h2 h3 hQ => wpAny_Name (wpAny_loadName_local hk h1 hns₃ h2 hQ) h3
  refine wpAt_of_wpAny (ld rfl rfl (by decide) ?_)
  refine ld rfl rfl (by decide) ?_
  refine set_plain X₃ (ox := excO C t1) (od := none) ⟨hx₃, rfl, rfl, trivial⟩ T.sa ?_
  refine exc_osa X₃ hx₃ hcl (show refsVE (.ref C :: bm) = true from hbm) rfl T.noN (fun h₄ tk₄ dx k₄ dn dne hx₄ hn₄ => ?_)
  refine wpAt_of_wpAny (wpAny_execs_nil (hq h₄ tk₄ dx ⟨fun b o hb e => k₄ b o hb (k13 b o hb (k b o e)), ⟨t1, hx₄⟩, ?_, dne, hn₄⟩))
  have z0 : s.heap.objs.size < h₃.objs.size := hns₃.lt
  exact Nat.le_of_lt (Nat.lt_of_lt_of_le z0 dn)
/-- a made error with its name -/
structure NsMade (h h' : Heap) (e C d : Addr) (v : Value) : Prop where
  keep : ∀ b o, h.get? b = some o → h'.get? b = some o
  new : h.objs.size ≤ e
  obj : ∃ oe vs, h'.get? e = some oe ∧ oe.cls = .ref C ∧ oe.dict = some d ∧ oe.data = .fields vs ∧ vs[1]? = some .none
  dbig : h.objs.size ≤ d
  dne : d ≠ e
  ns : h'.Ns1 d (fun y => if y = "name" then some v else none)
theorem ns_made (T : NsTxt prog K C CT fI cc cda) {v : Value} {mb : Str → Option Value} (X : K.In s.heap) (G : s.heap.Ns mainGlobals mg) (GB : s.heap.Ns builtinsNs mb) (hB : ∀ y : Str, y ≠ "__name__" → mb y = bootBuiltins y) (hlim : s.heap.NoLimit) (hroom : A.depth + 1 < recursionLimit)
    (hq : ∀ h' tk e d, NsMade s.heap h' e C d v → R (.ok (.ret (.ref e))) { s with heap := h', toks := tk }) :
    codeAny (model prog w) A (.call (.ref C) ⟨[v], []⟩) R s := by
  obtain ⟨nm, q, N, bs, bm, sn, sub, ab, col, dd, k0, k1, k2, k3, k5, hC, hbm, hal⟩ := T.cls
  obtain ⟨hp, g, dr, tk, os⟩ := s
  have kk : ∀ b o, hp.get? b = some o → ((hp.push (kdv_tup [v])).push (excO C hp.objs.size)).get? b = some o := fun b o e => Heap.get?_push_of_some _ (Heap.get?_push_of_some _ e)
  have hgt : ((hp.push (kdv_tup [v])).push (excO C hp.objs.size)).get? (hp.objs.size + 1) = some (excO C hp.objs.size) := by heap_get
  have hnx : K.lookup (hp.objs.size + 1) = none := by
    cases e : K.lookup (hp.objs.size + 1) with
    | none => rfl
    | some o =>
      have z : hp.get? (hp.objs.size + 1) = some o := X _ _ e
      exact absurd (Nat.lt_of_succ_lt (Heap.lt_size z)) (Nat.lt_irrefl _)
  refine call_own PySem.F.excBase_ValueError (fun Y => refsVE_contains Y bm hbm) (X _ _ hC) (looks_findIn X T.iC) (fun self => bind_fn X self T.tC) (by show 1 ≤ sizeLine; decide) ?_
  refine ns_init (s := ⟨(hp.push (kdv_tup [v])).push (excO C hp.objs.size), g, dr, tk, os⟩) T (X.keeps kk) (G.keeps kk) (GB.keeps kk) hB (hlim.keeps kk) hgt hnx ?_ fun h' tk' dx ⟨k', ⟨t1, hx⟩, dn, dne, hns⟩ => ?_
  · show A.depth + 1 < recursionLimit
    exact hroom
  · have old : ∀ b o, hp.get? b = some o → h'.get? b = some o := fun b o e => k' b o (Nat.ne_of_lt (Nat.lt_succ_of_lt (Heap.lt_size e))) (kk b o e)
    have z : hp.objs.size + 1 + 1 ≤ dx := by
      first
        | (simpa only [Heap.size_push] using dn)
        | exact dn
        | (have q := dn; rw [Heap.size_push, Heap.size_push] at q; exact q)
    exact ⟨rfl, hq h' tk' (hp.objs.size + 1) dx ⟨old, Nat.le_succ _, ⟨_, _, hx, rfl, rfl, rfl, rfl⟩, Nat.le_trans (Nat.le_trans (Nat.le_succ _) (Nat.le_succ _)) z, dne, hns⟩⟩
end
end NsX
end PySem
namespace K1
open PySem PySem.Spec PyProof.Rows L2
theorem relO_ns {v : V} {v' : Value} (r : RelV v v') (f : Str) : RelO (List.lookup f [(("name" : Str), v)]) (if f = "name" then some v' else none) := by
  by_cases hw : f = "name"
  · subst hw
    rw [if_pos rfl, show List.lookup ("name" : Str) [(("name" : Str), v)] = some v by simp [List.lookup]]
    exact r
  · rw [if_neg hw, show List.lookup f [(("name" : Str), v)] = none by simp [List.lookup, show (f == ("name" : Str)) = false by simpa using hw]]
    trivial
section
variable {X : Cx} {C CT fI cc cda : Addr}
/-- NoSign(e) -/
def tMkNs (C : Addr) (ta : TA) : L2.St → Hp → XK → Prop := fun σ H Q => ta σ H fun vs H1 => ∃ v, vs = [v] ∧ ∀ d, H1 d = none → Q (.ref C) (some d) (upd H1 d (.xd [(("name" : Str), v)]))
theorem pmk_ns {a : Expr} {ta : TA} {p pos : Pos} {k : Nat} (T : PySem.NsX.NsTxt X.prog X.K C CT fI cc cda) (gC : X.mg "NoSign" = some (.ref C)) (hr : Room k X.A) (ha : PA X [a] ta) (hg : Gl X "NoSign" := by rfl)
    (he : starEach (a :: []) X.env = (false, eval a X.env) :: starEach [] X.env := by rfl) (hpl : (backTo pos (starEach [] X.env)).any (·.1) = false := by rfl) :
    PMk X (.Call (.Name "NoSign" p) [a] [] pos) (tMkNs C ta) := by
  intro pins s σ H Q I h
  refine wpAny_Call_Name_kw (ld_glob I hg gC ?_)
  refine PySem.W.callWith_K (h₀ := X.base) I.ok.mod.kin T.kC (thn (ha.run pos pins s σ H _ I h) fun us s1 hh => ?_) he hpl
  obtain ⟨vs, H1, I1, r1, v, ev, q1⟩ := hh
  subst ev
  refine ⟨I1.kIn, ?_⟩
  cases r1 with
  | cons rv rn =>
    rename_i v' us'
    cases rn
    show wpAny _ _ (call (.ref C) [v']) _ _ _
    have hlim := I1.nolimit
    obtain ⟨mb, hb1, hb2⟩ := I1.mod.blt
    have hgl := I1.mod.glob.keeps I1.bk
    have hbl := hb1.keeps I1.bk
    have hk := I1.kIn
    obtain ⟨hp, g, dr, tk, os⟩ := s1
    refine wpAny_call (PySem.NsX.ns_made T hk hgl hbl hb2 hlim (by have := hr.dp; omega) fun h' tk' e d M => ?_)
    show MkP X pins σ Q (.ref e) ⟨h', g, dr, tk', os⟩
    obtain ⟨oe, fv, hoe, hc, hd, hdat, h1⟩ := M.obj
    have hns := M.ns
    obtain ⟨G', g1, g2⟩ := restrict h' fun b => decide (b ≠ e)
    have gk : ∀ b, b ≠ e → G'.get? b = h'.get? b := fun b hb => g1 b (decide_eq_true hb)
    have ge : G'.get? e = none := g2 e (by simp)
    have old : ∀ b o, hp.get? b = some o → G'.get? b = some o := fun b o q => (gk b (Nat.ne_of_lt (Nat.lt_of_lt_of_le (Heap.lt_size q) M.new))).trans (M.keep b o q)
    have ob : ObjOk X.prog X.w (upd H1 d (.xd [(("name" : Str), v)])) G' d (.xd [(("name" : Str), v)]) :=
      ⟨_, hns.at (fun o q => (gk d M.dne).trans q), fun f => relO_ns rv f⟩
    have J : Inv X pins σ (upd H1 d (.xd [(("name" : Str), v)])) ⟨G', g, dr, tk', os⟩ := I1.laid (t' := tk') old M.dbig ob
    refine ⟨e, oe, fv, ⟨G', g, dr, tk', os⟩, _, .ref C, some d, rfl, J, fun b o q => ?_, ge, hoe, ⟨hc, hd⟩, hdat, h1, ?_, rfl, I1.bare, raises_own T.exC T.tyC, q1 d (I1.hok.fresh M.dbig)⟩
    · by_cases hb : b = e
      · have q' : G'.get? b = some o := q
        rw [hb, ge] at q'
        cases q'
      · exact (gk b hb).symm.trans q
    · rw [upd_ne (Ne.symm M.dne)]
      exact I1.hok.fresh M.new
end
end K1
set_option Elab.async false
set_option linter.all false
set_option maxRecDepth 100000
set_option maxHeartbeats 4000000
namespace K1
open PySem PySem.Spec PyProof.Rows L2
/-- a method by its name -/
structure Mt (P : Program) (w : World) (K : PySem.W.Frag) (mg : Str → Option Value) (base : Heap) (CX : CXT) (C : Addr) (m : Str) (k : Nat) (ps : List Str) (sp : Sp) : Prop where
  ex : ∃ (f : Addr) (fd : FuncData), FnOk P w K mg base CX k f fd ps sp ∧ Meth K C m f ∧ Binds K fd ps []
def hasD (ns : List Str) : PyData → Bool
  | .str s => decide (s ∈ ns)
  | _ => false
def spRows (K : PySem.W.Frag) (C : Addr) : Sp := fun vs H Q _ => ∃ (p rt td : Addr) (xs : List V) (ns : List Str), vs = [.ref p] ∧ SgAt K C H p rt td xs ns ∧ ∀ l, H l = none → Q (.ref l) (upd H l (.lst xs))
def spHas (K : PySem.W.Frag) (C : Addr) : Sp := fun vs H Q _ => ∃ (p rt td : Addr) (xs : List V) (ns : List Str) (v : V) (d : PyData), vs = [.ref p, v] ∧ SgAt K C H p rt td xs ns ∧ Dm K H v d ∧ Q (.bl (hasD ns d)) H
/-- kind (i = 1), many (i = 2) -/
def spAt (K : PySem.W.Frag) (C CS : Addr) (i : Nat) : Sp := fun vs H Q E => ∃ (p rt td : Addr) (xs : List V) (ns : List Str) (v : V) (d : PyData), vs = [.ref p, v] ∧ SgAt K C H p rt td xs ns ∧ Dm K H v d ∧
  (hasD ns d = true → ∀ s, v = .str s → ∃ (b : Addr) (ys : List V) (y : V), valV (kvsOf ns xs) (Sum.inr s : Key) = some (.ref b) ∧ SqT K H b ys ∧ ys[i]? = some y ∧ Q y H) ∧
  (hasD ns d = false → ∀ dd, H dd = none → E (.ref CS) (some dd) (upd H dd (.xd [(("name" : Str), v)])))
def spLen (K : PySem.W.Frag) (C : Addr) : Sp := fun vs H Q _ => ∃ (p rt td : Addr) (xs : List V) (ns : List Str), vs = [.ref p] ∧ SgAt K C H p rt td xs ns ∧ Q (.int xs.length) H
/-- what isinstance(x, Signs) asks -/
structure SgI (K : PySem.W.Frag) (C : Addr) : Prop where
  ha : PySem.W.findIn K (.ref C) "__class__" = some (some (.builtin "object.__class__"))
  hn : PySem.W.specialIn K (.builtin "object.__class__") "__get__" = some (some (.builtin "getset_descriptor.__get__"))
  htk : PySem.W.takesIn K (.builtin "object.__class__") = some true
  hm : PySem.W.mroIn K C (.type "object") = some true
  own : PySem.W.kitOne K (.ref C) (.ref C) = some true
  tNone : PySem.W.kitOne K (.type "NoneType") (.ref C) = some false
  tBool : PySem.W.kitOne K (.type "bool") (.ref C) = some false
  tInt : PySem.W.kitOne K (.type "int") (.ref C) = some false
  tStr : PySem.W.kitOne K (.type "str") (.ref C) = some false
  tList : PySem.W.kitOne K (.type "list") (.ref C) = some false
  tTup : PySem.W.kitOne K (.type "tuple") (.ref C) = some false
  tDict : PySem.W.kitOne K (.type "dict") (.ref C) = some false
theorem SgI.no {K : PySem.W.Frag} {C : Addr} (I : SgI K C) : ∀ d : PyData, PySem.W.kitOne K (.type (tyOf d)) (.ref C) = some false
  | .none => I.tNone
  | .bool _ => I.tBool
  | .int _ => I.tInt
  | .str _ => I.tStr
  | .list _ => I.tList
  | .tuple _ => I.tTup
  | .dict _ => I.tDict
/-- == with data | with signs -/
def spSame (K : PySem.W.Frag) (C : Addr) : Sp := fun vs H Q _ => ∃ (p rt td : Addr) (xs : List V) (ns : List Str) (w : V), vs = [.ref p, w] ∧ SgAt K C H p rt td xs ns ∧
  ((∃ d, Dm K H w d ∧ Q (.bl false) H) ∨
    ∃ (p2 rt2 td2 : Addr) (xs2 : List V) (ns2 : List Str) (ds ds2 : List PyData), w = .ref p2 ∧ SgAt K C H p2 rt2 td2 xs2 ns2 ∧ DpAll K H xs ds ∧ DpAll K H xs2 ds2 ∧ SeqAt.shaped (.tuple ds) = true ∧ SeqAt.shaped (.tuple ds2) = true ∧ Q (.bl (PyData.eqv (.tuple ds) (.tuple ds2))) H)
section
variable {P : Program} {w : World} {K : PySem.W.Frag} {mg : Str → Option Value} {base : Heap}
theorem scRows : FnScope ["self"] ["self"] (defScope sRows) := ⟨rfl, rfl, rfl, by decide +kernel, rfl, by decide +kernel, by decide +kernel⟩
theorem ok_rows {f C : Addr} {fd : FuncData} (F : Fun K "rows" "Signs.rows" sRows f fd) (T : Cs mg) (G : SgC K C) : FnOk P w K mg base CX0 1 f fd ["self"] (spRows K C) := by
  refine F.ok scRows (fun vs H Q E h => ?_) (fun cdv A outer s H vs Q E hr h => ?_)
  · obtain ⟨p, rt, td, xs, ns, rfl, _⟩ := h
    rfl
  · obtain ⟨p, rt, td, xs, ns, rfl, S, k⟩ := h
    obtain ⟨⟨dx, hp⟩, hrt, htd, _⟩ := S
    refine ⟨_, pss_one (ps_ret (pe_callTy call_list_of (by rfl) T.list boot_list (pa_cons (pe_fld (pv 0) rfl) pa_nil))), ?_⟩
    exact ⟨_, rfl, p, C, dx, _, _, rfl, hp, G.cl, G.nR, sgF_rows rt td, rt, xs, rfl, .inr hrt, k⟩
theorem scHas : FnScope ["self", "name"] ["self", "name"] (defScope sHas) := ⟨rfl, rfl, rfl, by decide +kernel, rfl, by decide +kernel, by decide +kernel⟩
theorem ok_has {f C : Addr} {fd : FuncData} (F : Fun K "has" "Signs.has" sHas f fd) (T : Cs mg) (G : SgC K C) : FnOk P w K mg base CX0 1 f fd ["self", "name"] (spHas K C) := by
  refine F.ok scHas (fun vs H Q E h => ?_) (fun cdv A outer s H vs Q E hr h => ?_)
  · obtain ⟨p, rt, td, xs, ns, v, d, rfl, _⟩ := h
    rfl
  · obtain ⟨p, rt, td, xs, ns, v, d, rfl, S, hd, k⟩ := h
    obtain ⟨⟨dx, hp⟩, hrt, htd, hl, _⟩ := S
    have hu' := hu_of hr
    refine ⟨_, pss_one (ps_ret (pe_and (pe_callB call_isi (by rfl) T.isi boot_isinstance (pa_cons (pv 1) (pa_cons (pe_bltn (v := .ty "str") (by rfl) T.str boot_str rfl) pa_nil)))
      (pe_one (pe_cmp (pc_din hu' (pv 1) (pe_fld (pv 0) rfl)))))), ?_⟩
    refine ⟨_, rfl, _, _, _, _, _, rfl, .ty "str", tyx_of hd, kit_str d, _, rfl, ?_⟩
    cases d with
    | str s =>
      have ev : v = .str s := by
        cases hd with
        | dat h => cases h; rfl
      subst ev
      refine ⟨_, rfl, _, rfl, p, C, dx, _, _, rfl, hp, G.cl, G.nT, sgF_table rt td, td, _, rfl, DGet.k (k := Sum.inr s) htd, ?_⟩
      rw [val_kvs s ns xs hl]
      exact k
    | _ => exact k
theorem scKind : FnScope ["self", "name"] ["self", "name"] (defScope sKind) := ⟨rfl, rfl, rfl, by decide +kernel, rfl, by decide +kernel, by decide +kernel⟩
theorem scMany : FnScope ["self", "name"] ["self", "name"] (defScope sMany) := ⟨rfl, rfl, rfl, by decide +kernel, rfl, by decide +kernel, by decide +kernel⟩
theorem ok_kind {f C CS CT fI cc cda : Addr} {fd : FuncData} (F : Fun K "kind" "Signs.kind" sKind f fd) (MH : Mt P w K mg base CX0 C "has" 1 ["self", "name"] (spHas K C)) (G : SgC K C) (N : PySem.NsX.NsTxt P K CS CT fI cc cda) (gN : mg "NoSign" = some (.ref CS)) : FnOk P w K mg base (L2.CX P w) 5 f fd ["self", "name"] (spAt K C CS 1) := by
  obtain ⟨fh, fdh, FH, mH, bH⟩ := MH.ex
  refine F.okX scKind (fun vs H Q E h => ?_) (fun cdv A outer s H vs Q E hr h => ?_)
  · obtain ⟨p, rt, td, xs, ns, v, d, rfl, _⟩ := h
    rfl
  · obtain ⟨p, rt, td, xs, ns, v, d, rfl, S, hd, k1, k2⟩ := h
    have hu' := hu_of hr
    refine ⟨_, pss_cons (ps_if (pt_not (pt_val (pe_meth (pv 0) G.cl mH FH (hr.mono (by decide)) bH .nil pass0 (pa_cons (pv 1) pa_nil)))) (pss_one (ps_raise rfl (takes_of rfl rfl rfl rfl) (pmk_ns N gN hr (pa_cons (pv 1) pa_nil)))) pss_nil)
      (pss_one (ps_ret (pe_ix ix_tup (pe_dget hu' (pe_fld (pv 0) rfl) (pv 1) (fun _ _ => rfl)) pe_int (fun _ _ => rfl)))), ?_⟩
    obtain ⟨⟨dx, hp⟩, hrt, htd, hl, _⟩ := id S
    refine ⟨_, rfl, p, dx, _, rfl, hp, sgF_no rt td (by decide +kernel) (by decide +kernel), _, rfl, p, rt, td, xs, ns, v, d, rfl, S, hd, _, rfl, ?_⟩
    refine ite2 (fun h0 => ?_) (fun h0 => ?_)
    · exact ⟨_, rfl, _, rfl, fun dd hdd => k2 (by simpa using h0) dd hdd⟩
    · have h1 : hasD ns d = true := by
        have h2 : ¬ (!hasD ns d) = true := h0
        simpa using h2
      cases d with
      | str s =>
        have ev : v = .str s := by
          cases hd with
          | dat h => cases h; rfl
        subst ev
        obtain ⟨b, ys, y, hv, hb, hy, q⟩ := k1 h1 s rfl
        refine ⟨_, rfl, p, C, dx, _, _, rfl, hp, G.cl, G.nT, sgF_table rt td, _, rfl, td, .ref b, rfl, ?_, b, ys, 1, y, rfl, rfl, hb, atI_nat (j := 1) hy, q⟩
        rw [← hv]
        exact DGet.k (k := Sum.inr s) htd
      | _ => cases h1
theorem ok_many {f C CS CT fI cc cda : Addr} {fd : FuncData} (F : Fun K "many" "Signs.many" sMany f fd) (MH : Mt P w K mg base CX0 C "has" 1 ["self", "name"] (spHas K C)) (G : SgC K C) (N : PySem.NsX.NsTxt P K CS CT fI cc cda) (gN : mg "NoSign" = some (.ref CS)) : FnOk P w K mg base (L2.CX P w) 5 f fd ["self", "name"] (spAt K C CS 2) := by
  obtain ⟨fh, fdh, FH, mH, bH⟩ := MH.ex
  refine F.okX scMany (fun vs H Q E h => ?_) (fun cdv A outer s H vs Q E hr h => ?_)
  · obtain ⟨p, rt, td, xs, ns, v, d, rfl, _⟩ := h
    rfl
  · obtain ⟨p, rt, td, xs, ns, v, d, rfl, S, hd, k1, k2⟩ := h
    have hu' := hu_of hr
    refine ⟨_, pss_cons (ps_if (pt_not (pt_val (pe_meth (pv 0) G.cl mH FH (hr.mono (by decide)) bH .nil pass0 (pa_cons (pv 1) pa_nil)))) (pss_one (ps_raise rfl (takes_of rfl rfl rfl rfl) (pmk_ns N gN hr (pa_cons (pv 1) pa_nil)))) pss_nil)
      (pss_one (ps_ret (pe_ix ix_tup (pe_dget hu' (pe_fld (pv 0) rfl) (pv 1) (fun _ _ => rfl)) pe_int (fun _ _ => rfl)))), ?_⟩
    obtain ⟨⟨dx, hp⟩, hrt, htd, hl, _⟩ := id S
    refine ⟨_, rfl, p, dx, _, rfl, hp, sgF_no rt td (by decide +kernel) (by decide +kernel), _, rfl, p, rt, td, xs, ns, v, d, rfl, S, hd, _, rfl, ?_⟩
    refine ite2 (fun h0 => ?_) (fun h0 => ?_)
    · exact ⟨_, rfl, _, rfl, fun dd hdd => k2 (by simpa using h0) dd hdd⟩
    · have h1 : hasD ns d = true := by
        have h2 : ¬ (!hasD ns d) = true := h0
        simpa using h2
      cases d with
      | str s =>
        have ev : v = .str s := by
          cases hd with
          | dat h => cases h; rfl
        subst ev
        obtain ⟨b, ys, y, hv, hb, hy, q⟩ := k1 h1 s rfl
        refine ⟨_, rfl, p, C, dx, _, _, rfl, hp, G.cl, G.nT, sgF_table rt td, _, rfl, td, .ref b, rfl, ?_, b, ys, 2, y, rfl, rfl, hb, atI_nat (j := 2) hy, q⟩
        rw [← hv]
        exact DGet.k (k := Sum.inr s) htd
      | _ => cases h1
theorem scLen : FnScope ["self"] ["self"] (defScope sLen) := ⟨rfl, rfl, rfl, by decide +kernel, rfl, by decide +kernel, by decide +kernel⟩
theorem ok_len {f C : Addr} {fd : FuncData} (F : Fun K "__len__" "Signs.__len__" sLen f fd) (T : Cs mg) (G : SgC K C) : FnOk P w K mg base CX0 1 f fd ["self"] (spLen K C) := by
  refine F.ok scLen (fun vs H Q E h => ?_) (fun cdv A outer s H vs Q E hr h => ?_)
  · obtain ⟨p, rt, td, xs, ns, rfl, _⟩ := h
    rfl
  · obtain ⟨p, rt, td, xs, ns, rfl, S, k⟩ := h
    obtain ⟨⟨dx, hp⟩, hrt, htd, _⟩ := S
    refine ⟨_, pss_one (ps_ret (pe_callB call_len_seq (by rfl) T.len PySem.boot_len (pa_cons (pe_fld (pv 0) rfl) pa_nil))), ?_⟩
    exact ⟨_, rfl, p, C, dx, _, _, rfl, hp, G.cl, G.nR, sgF_rows rt td, rt, xs, rfl, .inr hrt, k⟩
theorem scEq : FnScope ["self", "other"] ["self", "other"] (defScope sEq) := ⟨rfl, rfl, rfl, by decide +kernel, rfl, by decide +kernel, by decide +kernel⟩
theorem ok_same {f C : Addr} {fd : FuncData} (F : Fun K "__eq__" "Signs.__eq__" sEq f fd) (T : Cs mg) (G : SgC K C) (GI : SgI K C) (gC : mg "Signs" = some (.ref C)) : FnOk P w K mg base CX0 1 f fd ["self", "other"] (spSame K C) := by
  refine F.ok scEq (fun vs H Q E h => ?_) (fun cdv A outer s H vs Q E hr h => ?_)
  · obtain ⟨p, rt, td, xs, ns, w, rfl, _⟩ := h
    rfl
  · obtain ⟨p, rt, td, xs, ns, w, rfl, S, k⟩ := h
    obtain ⟨⟨dx, hp⟩, hrt, htd, _⟩ := S
    refine ⟨_, pss_one (ps_ret (pe_and (pe_callB call_isi (by rfl) T.isi boot_isinstance (pa_cons (pv 1) (pa_cons (pe_glob (v := .ref C) (by rfl) gC rfl) pa_nil)))
      (pe_one (pe_cmpR (op_eqD hr.units) (pe_fld (pv 0) rfl) (pe_fld (pv 1) rfl) (nomark _))))), ?_⟩
    rcases k with ⟨d, hd, q⟩ | ⟨p2, rt2, td2, xs2, ns2, ds, ds2, rfl, ⟨⟨dx2, hp2⟩, hrt2, htd2, _⟩, h1, h2, s1, s2, q⟩
    · refine ⟨_, rfl, _, _, _, _, _, rfl, .own C, tyx_of hd, GI.no d, _, rfl, ?_⟩
      exact iteF q
    · refine ⟨_, rfl, _, _, _, _, _, rfl, .own C, .base (.ins hp2 G.cl GI.ha GI.hn GI.htk GI.hm), GI.own, _, rfl, ?_⟩
      refine iteT ?_
      exact ⟨_, rfl, p, C, dx, _, _, rfl, hp, G.cl, G.nR, sgF_rows rt td, _, rfl, p2, C, dx2, _, _, rfl, hp2, G.cl, G.nR, sgF_rows rt2 td2, .tuple ds, .tuple ds2, .tup hrt h1, .tup hrt2 h2, s1, s2, q⟩
end
end K1
set_option Elab.async false
set_option linter.all false
set_option maxRecDepth 100000
set_option maxHeartbeats 4000000
/-! sorted(xs, key=f), f a def of the program or a lambda, its answers texts -/
namespace SrtF
open PySem PySem.Spec PyProof.Rows L2 PySem.W
section
variable {X : Cx} {pins : List (Addr × Obj)} {σ : L2.St} {H : Hp} {s : Shared} {T : Type}
/-- one call of the key: the heap grows, a text comes -/
def KTurn (X : Cx) (A : Around) (σ : L2.St) (H : Hp) (f : Value) (pins0 : List (Addr × Obj)) (x : V) (z : Str) : Prop :=
  ∀ (pins : List (Addr × Obj)) (s' : Shared) (H' : Hp) (u : Value), (∀ p ∈ pins0, p ∈ pins) → Inv X pins σ H' s' → Same H H' → RelV x u →
    wpAny (model X.prog X.w) A (call f [u]) (fun v s'' => ∃ H'', Inv X pins σ H'' s'' ∧ Same H' H'' ∧ ∃ t, v = .str z t) (fun _ _ => False) s'
theorem no_lt {a b : Nat} (h : a < b) (h2 : b ≤ a) : False := by omega
theorem mine_ok (I : Inv X pins σ H s) {b : Addr} (hb : s.heap.objs.size ≤ b) : (b ∈ X.ex ∨ X.s_0.heap.objs.size ≤ b) ∧ b ≠ X.env.locals ∧ (∀ x c, X.env.cells.lookup x = some c → c ≠ b) ∧ (∀ p ∈ X.pn ++ pins, p.1 ≠ b) ∧ b ∉ X.fs := by
  have h0 : X.s_0.heap.objs.size ≤ s.heap.objs.size := Nat.le_trans I.ok.above (Nat.le_of_lt I.lt)
  refine ⟨.inr (Nat.le_trans h0 hb), fun z => ?_, fun x c e z => ?_, fun p hp z => ?_, fun z => I.nofs hb z⟩
  · have := I.lt
    rw [← z] at this
    exact no_lt this hb
  · obtain ⟨v, o, ho, _⟩ := I.cell x c e
    have := Heap.lt_size ho
    rw [z] at this
    exact no_lt this hb
  · have := Heap.lt_size (I.pin p hp).1
    rw [z] at this
    exact no_lt this hb
/-- two objects of ours, untracked, have changed: the one is tracked from now on -/
theorem inv_two {a kS : Addr} {o : HO} {h' : Heap} {t' : Nat} (I : Inv X pins σ H s) (oa : (a ∈ X.ex ∨ X.s_0.heap.objs.size ≤ a) ∧ a ≠ X.env.locals ∧ (∀ x c, X.env.cells.lookup x = some c → c ≠ a) ∧ (∀ p ∈ X.pn ++ pins, p.1 ≠ a))
    (ok : (kS ∈ X.ex ∨ X.s_0.heap.objs.size ≤ kS) ∧ kS ≠ X.env.locals ∧ (∀ x c, X.env.cells.lookup x = some c → c ≠ kS) ∧ (∀ p ∈ X.pn ++ pins, p.1 ≠ kS)) (na : H a = none) (nk : H kS = none)
    (k : ∀ b o, b ≠ a → b ≠ kS → s.heap.get? b = some o → h'.get? b = some o) (new : ObjOk X.prog X.w (upd H a o) h' a o) : Inv X pins σ (upd H a o) { s with heap := h', toks := t' } := by
  have nt : ∀ b u, H b = some u → b ≠ a ∧ b ≠ kS := fun b u e => ⟨fun z => (by rw [z, na] at e; cases e), fun z => (by rw [z, nk] at e; cases e)⟩
  refine I.step (g' := s.gens) (d' := s.drawn) (ch := [a, kS]) (fun b hb => ?_) (fun b o _ _ hc e _ => ?_) (fun b o _ _ hc e _ => ⟨o.slots, ?_⟩) (fun b o hc _ n => ?_)
    (fun b o hc e => ⟨o, ?_⟩) (fun b xs e => ?_) (fun b o xs e => ?_) (fun b ps e => ⟨#[], ?_⟩) (fun m hm => ?_) (fun b u e => ?_) I.bare
  · rcases List.mem_cons.mp hb with rfl | hb
    · exact oa
    · rcases List.mem_cons.mp hb with rfl | hb
      · exact ok
      · cases hb
  · exact k b o (fun z => hc (by simp [z])) (fun z => hc (by simp [z])) e
  · exact k b o (fun z => hc (by simp [z])) (fun z => hc (by simp [z])) e
  · rw [upd_ne (fun z => hc (by simp [z]))]
    exact n
  · exact k b o (fun z => hc (by simp [z])) (fun z => hc (by simp [z])) e
  · rw [upd_ne (nt b _ e).1]
    exact e
  · rw [upd_ne (nt b _ e).1]
    exact e
  · rw [upd_ne (nt b _ e).1, e]
    simp
  · obtain ⟨o, es, ep, ho, r⟩ := hm
    exact ⟨o, es, ep, k _ o (Ne.symm oa.2.1) (Ne.symm ok.2.1) ho, r⟩
  · by_cases hb : b = a
    · rw [hb, upd_same] at e
      cases e
      rw [hb]
      exact new
    · rw [upd_ne hb] at e
      refine (I.hok b u e).stay (fun c v hc q => k c v ?_ ?_ q) (fun c q => ?_) fun c xs q => ?_
      · rcases hc with z | z
        · rw [z]
          exact hb
        · exact (nt c _ z).1
      · rcases hc with z | z
        · rw [z]
          exact (nt b u e).2
        · exact (nt c _ z).2
      · rw [upd_ne (nt c _ q).1]
        exact q
      · rw [upd_ne (nt c _ q).1]
        exact q
/-- what is sorted: by the texts -/
def leK (key : T → Str) (a b : T) : Bool := dataLe false (fun t => PyData.str (key t)) a b
theorem alike_strs (zs : List Str) : AllAlike (zs.map PyData.str) := fun d hd d' hd' => by
  obtain ⟨z, _, rfl⟩ := List.mem_map.mp hd
  obtain ⟨z', _, rfl⟩ := List.mem_map.mp hd'
  rfl
theorem sortable_strs (zs : List Str) : Sortable (zs.map PyData.str) := .inr fun d hd => by
  obtain ⟨z, _, rfl⟩ := List.mem_map.mp hd
  exact ⟨nofun, nofun⟩
theorem each_vals {xs : List (V × T)} : ∀ {its : List Value}, Vals (xs.map Prod.fst) its → EachIs (fun v (p : V × T) => RelV p.1 v) its xs := by
  induction xs with
  | nil => intro its h; cases h; exact .nil
  | cons p r ih =>
    intro its h
    cases h with
    | cons h t => exact .cons h (ih t)
theorem vals_each {xs : List (V × T)} : ∀ {its : List Value}, EachIs (fun v (p : V × T) => RelV p.1 v) its xs → Vals (xs.map Prod.fst) its := by
  induction xs with
  | nil => intro its h; cases h; exact .nil
  | cons p r ih =>
    intro its h
    cases h with
    | cons h t => exact .cons h (ih t)
theorem each_at {α β : Type} {R : α → β → Prop} : ∀ {as : List α} {bs : List β}, EachIs R as bs → ∀ {i : Nat} {a : α}, as[i]? = some a → ∃ b, bs[i]? = some b ∧ R a b
  | _, _, .nil, i, a, h => by simp at h
  | _, _, .cons h t, 0, a, e => ⟨_, rfl, by
      have e' := Option.some.inj e
      rw [← e']
      exact h⟩
  | _, _, .cons h t, i + 1, a, e => each_at t (i := i) e
theorem sorted_key {l : Addr} {f : Value} {key : T → Str} {ps : List (V × T)} {Q : VK} (I : Inv X pins σ H s) (hl : SqL X.K H l (ps.map Prod.fst)) (ht : ∀ x, Builtin.«list.sort» ⟨[.ref x], [(Str.ofString "key", f)]⟩ = ksk_tree x f false)
    (hu : X.A.units + 8 < cLine) (hturn : ∀ p ∈ ps, KTurn X X.A.in1.in1 σ H f pins p.1 (key p.2))
    (hq : ∀ p H', Same H H' → H' p = none → Q (.ref p) (upd H' p (.lst ((ps.mergeSort (leK fun p => key p.2)).map Prod.fst)))) :
    wpAny (model X.prog X.w) X.A (call (.builtin "sorted") [.ref l] [(Str.ofString "key", f)]) (EP X pins σ Q) X.xe s := by
  obtain ⟨its, rv, pl, hz⟩ := I.list hl
  have eR := each_vals rv
  have hZ : its.length ≤ sizeLine := by rw [← rv.length]; exact hz
  have hlen : its.length = ps.length := eR.length
  refine sorted_of_sort pl.isList hZ (ksk_s1 _ _) (fun _ => ksk_l1 _ _) fun E' => ?_
  rw [ht]
  -- the list and what holds the keys are ours
  have hC := copyHeap_at s.heap its
  have ha : s.heap.objs.size + 1 < (copyHeap s.heap its).objs.size := Heap.lt_size hC
  obtain ⟨e1, ho1⟩ : ∃ e1, ((copyHeap s.heap its).update (s.heap.objs.size + 1) (Obj.mapSeq fun _ => (#[] : Array Value))).get? (s.heap.objs.size + 1) = some (seqObj "list" #[] e1) := ⟨_, get?_update_seq hC fun _ => #[]⟩
  have hkS : (((copyHeap s.heap its).update (s.heap.objs.size + 1) (Obj.mapSeq fun _ => (#[] : Array Value))).push (seqObj "tuple" its.toArray 0)).objs.size = (copyHeap s.heap its).objs.size + 1 := by rw [size_push', Heap.size_update]
  unfold ksk_tree
  refine wpAny_bind (listItems_at hC rfl ?_)
  refine wpAny_bind (listUpdate_at hC rfl ?_ (by rw [List.size_toArray]; exact hZ) (Nat.zero_le _))
  refine wpAny_bind (seqEpoch_at ho1 rfl ?_)
  refine wpAny_bind (wpAny_newTuple ?_ (by show its.length ≤ _; exact hZ))
  refine wpAny_bind (wpAny_newList ?_ (Nat.zero_le _))
  refine wpAny_holding ?_
  generalize ekS : (((copyHeap s.heap its).update (s.heap.objs.size + 1) (Obj.mapSeq fun _ => (#[] : Array Value))).push (seqObj "tuple" its.toArray 0)).objs.size = kS at hkS ⊢
  generalize ea : s.heap.objs.size + 1 = a at hC ha ho1 ekS ⊢
  have bigA : s.heap.objs.size ≤ a := by rw [← ea]; exact Nat.le_succ _
  have hka : a ≠ kS := by
    rw [hkS]
    exact Nat.ne_of_lt (Nat.lt_succ_of_lt ha)
  have bigK : s.heap.objs.size ≤ kS := by
    rw [hkS]
    exact Nat.le_succ_of_le (Nat.le_trans bigA (Nat.le_of_lt ha))
  have old : ∀ b o, s.heap.get? b = some o → ((((copyHeap s.heap its).update a (Obj.mapSeq fun _ => (#[] : Array Value))).push (seqObj "tuple" its.toArray 0)).push (seqObj "list" #[] 0)).get? b = some o := fun b o e => by
    have e' := sorting_copy_old (vs := its) e
    rw [ea] at e'
    exact e'
  have atK : ((((copyHeap s.heap its).update a (Obj.mapSeq fun _ => (#[] : Array Value))).push (seqObj "tuple" its.toArray 0)).push (seqObj "list" #[] 0)).get? kS = some (seqObj "list" #[] 0) := by
    rw [← ekS]
    exact Heap.get?_push_size _ rfl
  have atA : ((((copyHeap s.heap its).update a (Obj.mapSeq fun _ => (#[] : Array Value))).push (seqObj "tuple" its.toArray 0)).push (seqObj "list" #[] 0)).get? a = some (seqObj "list" #[] e1) :=
    Heap.get?_push_of_some _ (Heap.get?_push_of_some _ ho1)
  generalize hG : ((((copyHeap s.heap its).update a (Obj.mapSeq fun _ => (#[] : Array Value))).push (seqObj "tuple" its.toArray 0)).push (seqObj "list" #[] 0)) = G at old atK atA
  show wpAny _ _ _ _ _ { s with heap := G }
  have I2 : Inv X pins σ H { s with heap := G } := I.kept (t' := s.toks) old
  have okA := mine_ok I bigA
  have okK := mine_ok I bigK
  have nA : H a = none := I.hok.fresh bigA
  have nK : H kS = none := I.hok.fresh bigK
  have nocell : ∀ (xs : Array Value) (n : Nat) v, (seqObj "list" xs n).data ≠ .cell v := fun xs n v z => by cases z
  -- the keys, one by one
  unfold ksk_rest
  refine wpAny_bind (wpAny_rule ?_)
  first
    | rw [List.forIn_toArray]
    | (rw [← Array.forIn_toList]; simp only [List.toList_toArray])
    | rw [← Array.forIn_toList]
  refine wpAny_bind (ksk_fold (fun i s' => ∃ (kA : Array Value) (e : Nat) (H' : Hp), Inv X (pins ++ [(kS, seqObj "list" kA e), (a, seqObj "list" #[] e1)]) σ H' s' ∧ Same H H' ∧ EachIs (fun v (p : V × T) => ∃ t, v = Value.str (key p.2) t) kA.toList (ps.take i)) its 0 _ ?start ?step ?done)
  case start =>
    refine ⟨#[], 0, H, I2.pins_of fun p hp => ?_, Same.refl H, by rw [List.take_zero]; exact .nil⟩
    rcases List.mem_append.mp hp with hp | hp
    · exact I2.pin p (List.mem_append_right _ hp)
    · rcases List.mem_cons.mp hp with rfl | hp
      · exact ⟨atK, nK, okK.2.1, okK.2.2.2.2, nocell _ _⟩
      · rcases List.mem_cons.mp hp with rfl | hp
        · exact ⟨atA, nA, okA.2.1, okA.2.2.2.2, nocell _ _⟩
        · cases hp
  case step =>
    rintro j x s' hx ⟨kA, e, H', J, sm, hk⟩
    simp only [Nat.zero_add] at hk ⊢
    have hj : j < its.length := (List.getElem?_eq_some_iff.mp hx).1
    obtain ⟨p, hpj, hrx⟩ := each_at eR hx
    have hz2 : kA.size ≤ its.length := by
      have h1 := hk.length
      rw [Array.length_toList, List.length_take] at h1
      omega
    refine wpAny_bind (wpAny_attempt (wpAny_mono (hturn p (List.mem_of_getElem? hpj) _ s' H' x (fun q hq => List.mem_append_left _ hq) J sm hrx) (fun v s'' he => ?_) fun _ _ hF => hF.elim))
    obtain ⟨H'', J2, sm2, t, rfl⟩ := he
    try dsimp only
    obtain ⟨nk2, zk, _, _, _⟩ := J2.pin (kS, seqObj "list" kA e) (by simp)
    obtain ⟨na2, za, _, _, _⟩ := J2.pin (a, seqObj "list" #[] e1) (by simp)
    dsimp only at nk2 zk na2 za
    have s1 := Heap.SameBut.update s''.heap kS (Obj.mapSeq (·.push (Value.str (key p.2) t)))
    obtain ⟨c2, hc2⟩ : ∃ c2, (s''.heap.update kS (Obj.mapSeq (·.push (Value.str (key p.2) t)))).get? kS = some (seqObj "list" (kA.push (Value.str (key p.2) t)) c2) := ⟨_, get?_update_seq nk2 (·.push (Value.str (key p.2) t))⟩
    have ek : ps.take (j + 1) = ps.take j ++ [p] := by rw [List.take_add_one, hpj]; simp
    have ea2 : (kA.push (Value.str (key p.2) t)).toList = kA.toList ++ [Value.str (key p.2) t] := by simp
    refine wpAny_bind (listUpdate_at nk2 rfl ?_ (Nat.le_trans hz2 hZ) (Nat.le_trans (Nat.le_of_eq (Array.size_push ..)) (Nat.succ_le_succ (Nat.le_trans hz2 hZ))))
    have J3 : Inv X pins σ H'' s'' := J2.pins_of fun p hp => J2.pin p (by
      rcases List.mem_append.mp (List.mem_append_right X.pn hp) with z | z <;> simp [z])
    have J4 : Inv X pins σ H'' { s'' with heap := s''.heap.update kS (Obj.mapSeq (·.push (Value.str (key p.2) t))), toks := s''.toks } := J3.turned (it := kS) (fun b o hb e => (s1.2 b hb).trans e) zk okK.2.1 okK.1 okK.2.2.1 okK.2.2.2.1
    refine wpAny_pure ⟨rfl, kA.push (Value.str (key p.2) t), c2, H'', J4.pins_of fun q hq => ?_, sm.trans sm2, ?_⟩
    · rcases List.mem_append.mp hq with hq | hq
      · exact J4.pin q (List.mem_append_right _ hq)
      · rcases List.mem_cons.mp hq with rfl | hq
        · exact ⟨hc2, zk, okK.2.1, okK.2.2.2.2, nocell _ _⟩
        · rcases List.mem_cons.mp hq with rfl | hq
          · exact ⟨(s1.2 a hka).trans na2, za, okA.2.1, okA.2.2.2.2, nocell _ _⟩
          · cases hq
    · rw [ea2, ek]
      exact each_snoc ⟨t, rfl⟩ hk
  case done =>
    rintro s' ⟨kA, e, H', J, sm, hk⟩
    have e3 : ps.take (0 + its.length) = ps := List.take_of_length_le (by omega)
    rw [e3] at hk
    obtain ⟨nk', zk, _, _, _⟩ := J.pin (kS, seqObj "list" kA e) (by simp)
    obtain ⟨na', za, _, _, _⟩ := J.pin (a, seqObj "list" #[] e1) (by simp)
    dsimp only at nk' zk na' za
    have hsz : kA.size = its.length := by
      have h1 := hk.length
      rw [Array.length_toList] at h1
      omega
    have hk' : EachIs (fun v k => ∃ as, Reads s'.heap v k as) kA.toList (ps.map fun p => PyData.str (key p.2)) := by
      clear hsz
      generalize hkl : kA.toList = kL at hk
      clear hkl
      clear e3 eR rv hlen hl hturn hq hz
      induction hk with
      | nil => exact .nil
      | cons h _ ih =>
        obtain ⟨t, rfl⟩ := h
        exact .cons ⟨[], Reads.str _ t⟩ ih
    try dsimp only
    refine wpAny_bind (listItems_at nk' rfl ?_)
    obtain ⟨G2, g1, g2⟩ := restrict s'.heap fun b => decide (b ≠ kS)
    have hal : AllAlike (ps.map fun p => PyData.str (key p.2)) := by
      have := alike_strs (ps.map fun p => key p.2)
      rw [List.map_map] at this
      exact this
    have hsk : Sortable (ps.map fun p => PyData.str (key p.2)) := by
      have := sortable_strs (ps.map fun p => key p.2)
      rw [List.map_map] at this
      exact this
    refine keyH_end (κ := dataKind s'.heap (ps.map fun p => PyData.str (key p.2))) (h₁ := G2) (fun b o hb q => ?_) (g2 kS (by simp)) nk' na' (Ne.symm hka) (SortsAt.data (s := s') hk' hal hsk fun d hd => ?_) hsz hZ fun h3 tk3 c k3 n3 => ⟨rfl, ?_⟩
    · by_cases hbk : b = kS
      · rw [hbk, g2 kS (by simp)] at q
        cases q
      · rw [g1 b (by simpa using hbk)] at q
        exact q
    · obtain ⟨p, _, rfl⟩ := List.mem_map.mp hd
      show X.A.units + 2 + _ < cLine
      have : (PyData.str (key p.2)).depth ≤ 1 := by simp [PyData.depth]
      omega
    · have ko : KeyedOut false (ps.map fun p => PyData.str (key p.2)) its (sortVals (dataKind s'.heap (ps.map fun p => PyData.str (key p.2))) false kA.toList its) := ⟨s'.heap, kA.toList, hal, rfl, hk'⟩
      have eo := keyedOut_each (fun p : V × T => PyData.str (key p.2)) ko eR
      have J3 : Inv X pins σ H' s' := J.pins_of fun p hp => J.pin p (by
        rcases List.mem_append.mp (List.mem_append_right X.pn hp) with z | z <;> simp [z])
      have vo := vals_each eo
      have lo : (sortVals (dataKind s'.heap (ps.map fun p => PyData.str (key p.2))) false kA.toList its).length = its.length := (ko.length (by rw [List.length_map]; exact hlen.symm))
      have J5 : Inv X pins σ (upd H' a (.lst ((ps.mergeSort (leK fun p => key p.2)).map Prod.fst))) { s' with heap := h3, toks := tk3 } := by
        refine inv_two J3 ⟨okA.1, okA.2.1, okA.2.2.1, okA.2.2.2.1⟩ ⟨okK.1, okK.2.1, okK.2.2.1, okK.2.2.2.1⟩ za zk (fun b o h1 h2 q => k3 b o h1 ?_) ⟨?_, _, c, vo, n3⟩
        · rw [g1 b (by simpa using h2)]
          exact q
        · have vl := vo.length
          rw [lo] at vl
          exact Nat.le_trans (Nat.le_of_eq vl) hZ
      exact ⟨.ref a, _, J5, rfl, hq a H' sm za⟩
end
end SrtF
set_option Elab.async false
set_option linter.all false
set_option maxRecDepth 100000
set_option maxHeartbeats 4000000
namespace SrtF
open PySem PySem.Spec PyProof.Rows L2 PySem.W
section
variable {X : Cx} {T : Type}
theorem in1_in1 {k : Nat} {A : Around} (r : Room (k + 2) A) : Room k A.in1.in1 := (Room.in1 (Room.in1 r))
/-- sorted(xs, key=f), f a def: what it asks of each call -/
def rSortF (K : PySem.W.Frag) (T : Type) (sp : Sp) (f : Addr) : List V → List V → Hp → VK → Prop := fun vs zs H Q => ∃ (l : Addr) (ps : List (V × T)) (key : T → Str), vs = [.ref l] ∧ zs = [.ref f] ∧ SqL K H l (ps.map Prod.fst) ∧
  (∀ p ∈ ps, ∀ H', Same H H' → sp [p.1] H' (fun v H'' => v = .str (key p.2) ∧ Same H' H'') C8.E0) ∧ ∀ p H', Same H H' → H' p = none → Q (.ref p) (upd H' p (.lst ((ps.mergeSort (leK fun p => key p.2)).map Prod.fst)))
theorem cr_sortF {k : Nat} {f : Addr} {fd : FuncData} {a : Str} {sp : Sp} (F : FnOk X.prog X.w X.K X.mg X.base C8.CX0 k f fd [a] sp) (hr : Room (k + 2) X.A) (hb : Binds X.K fd [a] []) :
    CallRK X (.builtin "sorted") [Str.ofString "key"] (rSortF X.K T sp f) := by
  intro pins s σ H vs zs us ws Q I rx rz h
  obtain ⟨l, ps, key, rfl, rfl, hl, hp, q⟩ := h
  obtain ⟨u, rfl, ru⟩ := vals1 rx
  obtain ⟨w1, rfl, rw1⟩ := vals1 rz
  obtain rfl : u = Value.ref l := ru
  obtain rfl : w1 = Value.ref f := rw1
  have hun := hr.un
  refine sorted_key I hl (fun _ => ksk_t1 _ _) (by omega) (fun p hpm => ?_) q
  intro pins' s' H' u hin J sm ru
  have hbd := hb s' [u] J.kIn rfl
  refine wpAny_call (codeAny_mono (F.run X.A.in1.in1 X.stack s' H' ⟨[u], []⟩ [u] [p.1] (fun v H'' => v = .str (key p.2) ∧ Same H' H'') C8.E0 (in1_in1 hr) J.env0.in1.in1 (by simpa using hbd) (.cons ru .nil) (hp p hpm H' sm)) fun r s'' hq => ?_)
  cases r with
  | error e => exact hq.elim
  | ok fl =>
    cases fl with
    | ret u =>
      obtain ⟨v, H'', J2, rv, rfl, s2⟩ := J.after hq
      obtain ⟨t, rfl⟩ := rv
      exact ⟨H'', J2, s2, t, rfl⟩
    | next => exact False.elim hq
    | brk => exact False.elim hq
    | cont => exact False.elim hq
/-- sorted(e, key=lambda a: body): what it asks -/
def tSortL (K : PySem.W.Frag) (T : Type) (TT : List (Addr × Str)) (tb : TE) (t : TA) : TE := fun σ H Q => t σ H fun vs H1 => LamX.Tabs TT H1 ∧ ∀ H2, LamX.ExtN H1 H2 → LamX.Tabs TT H2 →
  ∃ (l : Addr) (ps : List (V × T)) (key : T → Str), vs = [.ref l] ∧ SqL K H2 l (ps.map Prod.fst) ∧ (∀ p ∈ ps, ∀ H', Same H2 H' → tb [some p.1] H' (fun v H'' => v = .str (key p.2) ∧ Same H' H'')) ∧
  ∀ p H', Same H2 H' → H' p = none → Q (.ref p) (upd H' p (.lst ((ps.mergeSort (leK fun p => key p.2)).map Prod.fst)))
theorem pe_sortL {TT : List (Addr × Str)} {c P : Addr} {k : Nat} {a : Str} {params : Arguments} {body e : Expr} {scope : Scope} {tb : TE} {t : TA} {p lpos kpos pos : Pos} (hg : Gl X "sorted") (hm : X.mg "sorted" = none) (ha : PA X [e] t)
    (TB : LamX.TabB X.base X.mg c P) (hcode : X.env.code = .ref c) (hmT : (P, X.env.qual ++ "<lambda>") ∈ TT) (hu : ∀ p ∈ TT, p.1 = P → p.2 = X.env.qual ++ "<lambda>") (hr : Room (k + 3) X.A) (hdef : defaultsOf params X.env = ([], []))
    (S : FnScope [a] [a] scope) (hst : X.stack = X.env :: X.outer) (hfr : X.env.frame = some X.env.locals)
    (hbind : ∀ (q : Str) (cl : List (Str × Addr)) (pm cv ctv u : Value), bindArgs (PySem.W.kla_fn "<lambda>" q params body scope cl pm cv ctv) ⟨[u], []⟩ = pure [(a, u)])
    (hbody : ∀ (A : Around) (outer : List Env) (s : Shared) (H : Hp) (f c' : Addr), Room k (A.deeper (envOfC (X.env.qual ++ "<lambda>") scope s.heap.objs.size f (.ref c'))) → PE (cxOf C8.CX0 X.prog X.w X.K X.mg X.base [a] (X.env.qual ++ "<lambda>") scope f (.ref c') A outer s H C8.E0) body tb)
    (hclo : cloFrom X.env.cells scope.names [] = [] := by rfl)
    (he : backTo pos (starEach [e] X.env) = (false, eval e X.env) :: backTo pos (starEach [] X.env) := by rfl) (hpl : (backTo pos (starEach [e] X.env)).any (·.1) = false := by rfl) :
    PE X (.Call (.Name "sorted" p) [e] [⟨some "key", .Lambda params body scope lpos, kpos⟩] pos) (tSortL X.K T TT tb t) := by
  refine ⟨fun pins s σ H Q I h => ?_⟩
  refine wpAny_Call_Name_kw (ld_blt I hg hm (by decide +kernel : bootBuiltins "sorted" = some (.builtin "sorted")) ?_ (by decide) (by decide))
  refine PyProof.Rows.callWith_kw (thn (ha.run pos pins s σ H _ I h) fun us s1 ⟨vs, H1, I1, r1, hT, q1⟩ => ?_) he hpl rfl rfl
  show wpAny _ _ (evalAll ((do let v ← eval (.Lambda params body scope lpos) X.env; standAt pos; pure v) :: [])) _ _ s1
  have hun := hr.un
  refine wpAny_evalAll_cons (wpAny_bind (LamX.lam_make2 I1 TB hcode hmT hu hT hdef (fun y hy e => absurd e (S.nofree y hy)) fun f c' pm ctv H2 s2 I2 eN T2 hf hfn hfs hco => wpAny_bind (wpAny_standAt (wpAny_pure (wpAny_evalAll_nil ?_)))))
  obtain ⟨l, ps, key, rfl, hl, hp, q⟩ := q1 H2 eN T2
  obtain ⟨u, rfl, ru⟩ := vals1 r1
  obtain rfl : u = Value.ref l := ru
  rw [hclo] at hf
  have nfl : f ≠ X.env.locals := fun z => hfs (by
    rw [hst]
    unfold frs
    rw [List.filterMap_cons, hfr, z]
    exact List.mem_cons_self)
  have nff : f ∉ X.fs := fun z => hfs (by
    rw [hst]
    unfold frs
    rw [List.filterMap_cons, hfr]
    exact List.mem_cons_of_mem _ z)
  have J : Inv X (pins ++ [(f, PySem.W.kla_obj "<lambda>" (X.env.qual ++ "<lambda>") params body scope [] pm c' ctv)]) σ H2 s2 := I2.pins_of fun p hp => by
    rcases List.mem_append.mp hp with hp | hp
    · exact I2.pin p (List.mem_append_right _ hp)
    · obtain rfl := List.mem_singleton.mp hp
      exact ⟨hf, hfn, nfl, nff, fun v z => by cases z⟩
  refine wpAny_mono (sorted_key (T := T) J hl (fun _ => ksk_t1 _ _) (by omega) (fun p hpm => ?_) q) (fun v s' ⟨v', H', J', rv, q'⟩ => ⟨v', H', J'.unpinned, rv, q'⟩) fun _ _ z => z
  intro pins' s' H' u hin J' sm ru
  obtain ⟨of1, _⟩ := J'.pin _ (List.mem_append_right X.pn (hin _ (List.mem_append_right pins (List.mem_singleton.mpr rfl))))
  dsimp only at of1
  obtain ⟨⟨oc, vs, t, hoc, hdc, hvc⟩, _, _⟩ := J'.hok c' _ (sm _ _ hco)
  have e0 := J'.env0.in1.in1
  have lim : s'.heap.NoLimit := J'.nolimit
  have hr2 : Room (k + 1) X.A.in1.in1 := in1_in1 hr
  have rc : codeAny (model X.prog X.w) X.A.in1.in1 (.call (.ref f) ⟨[u], []⟩) (CR C8.CX0 X.stack X.prog X.w H' s' (fun v H'' => v = .str (key p.2) ∧ Same H' H'') C8.E0) s' := by
    refine PySem.W.kla_callFunE hr2.depth of1 rfl S.co S.gen rfl ⟨c', oc, vs, t, rfl, hoc, hdc, hvc⟩ ?_
    rw [hbind]
    refine wpAny_pure (wpAny_newFunctionEnv_cells S.kind (fun y hy => ?_) fun env he s1 x => ?_)
    · obtain rfl := List.mem_singleton.mp hy
      rcases S.par a (List.mem_singleton.mpr rfl) with q | q
      · exact .inl q
      · exact .inr ⟨q, PySem.W.cellsFrom_some _ _ _ (.inl q)⟩
    subst he
    refine ⟨lim.keeps x.toInCall.keep, ?_⟩
    have I0 : Inv (cxOf C8.CX0 X.prog X.w X.K X.mg X.base [a] (X.env.qual ++ "<lambda>") scope f (.ref c') X.A.in1.in1 X.stack s' H' C8.E0) [] (L2.start [a] [p.1]) H' s1 := inv_start (ps := [a]) (us := [u]) (vs := [p.1]) S hr2.hd e0 rfl (.cons ru .nil) x
    refine PySem.W.kla_codeExpr (wpAny_mono ((hbody _ _ s' H' f c' (hr2.deeper _)).run [] s1 (L2.start [a] [p.1]) H' _ I0 (hp p hpm H' sm)) (fun v s'' hs => ?_) fun e s'' hs => hs)
    obtain ⟨w', H'', K', rv, q⟩ := hs
    exact ⟨w', H'', K'.os, K'.bare, K'.base, K'.hok, rv, q⟩
  refine wpAny_call (codeAny_mono rc fun r s'' hq => ?_)
  cases r with
  | error e => exact (show False from hq).elim
  | ok fl =>
    cases fl with
    | ret u =>
      obtain ⟨v, H'', J2, rv, rfl, s2⟩ := J'.after hq
      obtain ⟨t, rfl⟩ := rv
      exact ⟨H'', J2, s2, t, rfl⟩
    | next => exact False.elim hq
    | brk => exact False.elim hq
    | cont => exact False.elim hq
end
end SrtF
set_option Elab.async false
set_option linter.all false
set_option maxRecDepth 100000
set_option maxHeartbeats 4000000
/-! max(xs, default=d) of ints; a list against an empty one; extend by a tuple -/
namespace PySem.SeqAt
open PySem PySem.Spec PySem.F
open MeetsSeq MeetsSeq2 MeetsSeq3 SeqRoads2 PySem.AutoSeq1
set_option maxRecDepth 8000 in
theorem extend_tupAny (l : Addr) (items : Array Value) (n : Nat) (b : Addr) (items2 : Array Value) (n2 : Nat) (dd : Option Addr) (sl : Array (Option Value)) (hs0 : ¬(!items.isEmpty && Builtin.List.listTooLong (items.size + items2.size)) = true) (hs1 : items.size ≤ sizeLine) (hs2 : items.size + items2.size ≤ sizeLine + 1) :
    Meets (Builtin.«list.extend» ⟨[.ref l, .ref b], []⟩) (fun _ R s => s.heap.get? l = some { cls := .type "list", dict := none, data := .seq items n, slots := #[] } ∧ s.heap.get? b = some { cls := .type "tuple", dict := dd, data := .seq items2 n2, slots := sl } ∧ R (.ok (.ret Value.none)) { s with heap := s.heap.update l (Obj.mapSeq fun x => x ++ items2), toks := s.toks }) :=
  .of_wp fun prog w A R s h => by
    obtain ⟨hp, g, d, tk, os⟩ := s; obtain ⟨hl, hb, h⟩ := h; have f1 := idx_int; have f2 := AutoSeq1.sub_tuple_tuple; have f3 := AutoSeq1.sub_list_list; have f4 := AutoSeq1.sub_tuple_list; have f5 := AutoSeq1.sub_list_tuple;
    have hz' : (items ++ items2).size ≤ sizeLine + 1 := by rw [Array.size_append]; exact hs2
    wp_walk using (wpAny_updateSeq hl rfl (hz := hs1) (_hz' := hz')), wpAny_loadPart' hl, wpAny_loadPart' hb; exact ⟨_, rfl, h⟩
end PySem.SeqAt
namespace SrtF
open PySem PySem.Spec PyProof.Rows L2 PySem.W
section
variable {X : Cx}
theorem reads_ints {h : Heap} : ∀ {vs : List Value} {ns : List Int}, IntsAre vs ns → ReadsAll h vs (ns.map PyData.int) (ns.flatMap fun _ => [])
  | _, _, .nil => .nil
  | _, _, .cons n t r => .cons (.int n t) (reads_ints r)
theorem foldl_max : ∀ (ns : List Int) (n : Int), (ns.foldl max n) ∈ n :: ns ∧ ∀ y ∈ n :: ns, y ≤ ns.foldl max n
  | [], n => ⟨by simp, fun y hy => by simp at hy; simp [hy]⟩
  | m :: ns, n => by
    obtain ⟨h1, h2⟩ := foldl_max ns (max n m)
    rw [List.foldl_cons]
    refine ⟨?_, fun y hy => ?_⟩
    · rcases List.mem_cons.mp h1 with h | h
      · rw [h]
        by_cases q : n ≤ m
        · rw [Int.max_eq_right q]; simp
        · rw [Int.max_eq_left (by omega)]; simp
      · exact List.mem_cons_of_mem _ (List.mem_cons_of_mem _ h)
    · have hb := h2 (max n m) List.mem_cons_self
      rcases List.mem_cons.mp hy with rfl | hy
      · exact Int.le_trans (Int.le_max_left _ _) hb
      · rcases List.mem_cons.mp hy with rfl | hy
        · exact Int.le_trans (Int.le_max_right _ _) hb
        · exact h2 y (List.mem_cons_of_mem _ hy)
theorem dep_ints : ∀ ns : List Int, PyData.depthAll (ns.map PyData.int) ≤ 1
  | [] => by simp [PyData.depthAll]
  | n :: r => by
    have ih := dep_ints r
    simp only [List.map_cons, PyData.depthAll, PyData.depth] at ih ⊢
    omega
/-- the greatest of them, or d -/
def rMaxDf (K : PySem.W.Frag) : List V → List V → Hp → VK → Prop := fun vs zs H Q => ∃ (a : Addr) (ns : List Int) (d : Int), vs = [.ref a] ∧ zs = [.int d] ∧ SqL K H a (ns.map V.int) ∧
  (ns = [] → Q (.int d) H) ∧ ∀ m, m ∈ ns → (∀ y, y ∈ ns → y ≤ m) → Q (.int m) H
theorem cr_maxDf (hc : X.calm = true) (hu : X.A.units + 10 < cLine) : CallRK X (.builtin "max") [Str.ofString "default"] (rMaxDf X.K) := by
  intro pins s σ H vs zs us ws Q I rx rz h
  obtain ⟨a, ns, d, rfl, rfl, hs, q0, q⟩ := h
  obtain ⟨u, rfl, ru⟩ := vals1 rx
  obtain ⟨w1, rfl, rw1⟩ := vals1 rz
  obtain rfl : u = Value.ref a := ru
  obtain ⟨t1, rfl⟩ := rw1
  obtain ⟨its, rv, hl, _⟩ := I.list hs
  have hi := rv.ints
  have dep := dep_ints ns
  refine max_list_default (xs := ns.map PyData.int) (I.ok.hd hc) hl.isList (reads_ints (by simpa using hi)) ⟨fun x hx y hy => ?_, fun x hx => ?_⟩ (by omega) (fun e h' tk hk => ?_) (fun y ys i v h' tk bs e hv r hk => ?_)
  · obtain ⟨n, _, rfl⟩ := List.mem_map.mp hx
    obtain ⟨m, _, rfl⟩ := List.mem_map.mp hy
    rfl
  · obtain ⟨n, _, rfl⟩ := List.mem_map.mp hx
    exact nofun
  · exact ⟨.int d, H, I.kept (t' := tk) hk, ⟨t1, rfl⟩, q0 (by simpa using e)⟩
  · cases ns with
    | nil => cases e
    | cons n ns =>
      cases e
      rw [maxD_ints] at r
      cases r with
      | int i t =>
        obtain ⟨m1, m2⟩ := foldl_max ns n
        exact ⟨.int _, H, I.kept (t' := tk) hk, ⟨t, rfl⟩, q _ m1 m2⟩
/-- xs.extend(t), t a tuple -/
def rExtT (K : PySem.W.Frag) : V → List V → Hp → VK → Prop := fun x vs H Q => ∃ l b xs zs, x = .ref l ∧ vs = [.ref b] ∧ H l = some (.lst xs) ∧ SqT K H b zs ∧ xs.length + zs.length ≤ sizeLine ∧ Q .non (upd H l (.lst (xs ++ zs)))
theorem mt_extT : MtM X "list.extend" (rExtT X.K) := by
  intro pins s σ H x vs v us Q I rx rv h
  obtain ⟨l, b, xs, zs, rfl, rfl, hH, hB, hz, q⟩ := h
  cases rx
  obtain ⟨u, rfl, ru⟩ := rv.one
  cases ru
  obtain ⟨z, its, n, r, hl, e⟩ := I.lstM hH
  obtain ⟨its2, r2, ⟨o, ho, hoc, n2, hd⟩, _⟩ := I.tuple hB
  obtain ⟨oc, od, odt, osl⟩ := o
  dsimp only at hoc hd
  subst hoc hd
  have l1 := r.length
  have l2 := r2.length
  have hsz : its.toArray.size + its2.toArray.size ≤ sizeLine := by rw [List.size_toArray, List.size_toArray]; omega
  have hlong : ¬ (!its.toArray.isEmpty && Builtin.List.listTooLong (its.toArray.size + its2.toArray.size)) = true := by
    rw [notLongL hsz, Bool.and_false]
    exact Bool.false_ne_true
  refine call_meets F.slot_list_extend ⟨_, e, rfl⟩ F.entry_list_extend (F.args_list_extend_2 _ _)
    (SeqAt.extend_tupAny l its.toArray n b its2.toArray n2 od osl hlong (by rw [List.size_toArray]; omega) (by omega)) ⟨e, ho, ?_⟩
  refine ⟨.non, _, I.lset (its' := its ++ its2) hH e (by simp) (r.append r2) ?_, rfl, q⟩
  rw [List.length_append]
  omega
/-- xs == [] -/
def rEqNil (K : PySem.W.Frag) : R2 := fun x y H Q => ∃ (a b : Addr) (xs : List V), x = .ref a ∧ y = .ref b ∧ SqL K H a xs ∧ SqL K H b [] ∧ Q (.bl xs.isEmpty) H
theorem op_eqNil (hu : X.A.units + 10 < cLine) : OpR X (compareOp .Eq) (rEqNil X.K) := by
  intro pins s σ H x y v u Q I rx ry h
  obtain ⟨a, b, xs, rfl, rfl, ha, hb, q⟩ := h
  cases rx
  cases ry
  obtain ⟨its, rv, hl, _⟩ := I.list ha
  obtain ⟨its2, rv2, hl2, _⟩ := I.list hb
  have e2 : its2 = [] := by cases rv2; rfl
  subst e2
  cases xs with
  | nil =>
    have e1 : its = [] := by cases rv; rfl
    subst e1
    exact SeqAt.eq_listAt (e := fun _ => true) hl.isList hl2.isList rfl (by omega) (fun j h1 => absurd h1 (by simp)) ⟨.bl _, H, I, rfl, q⟩
  | cons x xs =>
    refine SeqAt.eq_list_lengthsAt hl.isList hl2.isList ?_ (by omega) ⟨.bl _, H, I, rfl, q⟩
    have := rv.length
    cases its with
    | nil => simp at this
    | cons i its => rfl
end
end SrtF
set_option Elab.async false
set_option linter.all false
set_option maxRecDepth 100000
set_option maxHeartbeats 4000000
namespace K1
open PySem PySem.Spec PyProof.Rows L2
/-! ### defs that are run where no repr is under way -/
structure FnG (P : Program) (w : World) (K : PySem.W.Frag) (mg : Str → Option Value) (base : Heap) (k : Nat) (f : Addr) (fd : FuncData) (ps : List Str) (sp : Sp) : Prop where
  len : ∀ vs H Q E, sp vs H Q E → vs.length = ps.length
  run : ∀ (A : Around) (outer : List Env) (s : Shared) (H : Hp) (us : List Value) (vs : List V) (Q : VK) (E : XK), A.guards = some [] → Room k A → Env0 P w K mg base A outer s H → BindsTo s fd ⟨us, []⟩ (ps.zip us) → Vals vs us → sp vs H Q E →
    codeAny (model P w) A (.call (.ref f) ⟨us, []⟩) (CR CX0 outer P w H s Q E) s
/-- a def with its code object -/
structure FunC (K : PySem.W.Frag) (x : Str) (st : Stmt) (f : Addr) (fd : FuncData) (c : Addr) : Prop where
  ex : ∃ (oc : Value) (od : Option Addr) (kV doc pm : Value) (an : Option Addr) (ct : Value) (osl : Array (Option Value)),
    fd = PySem.W.fnOf x x (defArgs st) (defBody st) (defScope st) .none kV doc pm an (.ref c) ct ∧ K.lookup f = some ⟨oc, od, .func fd, osl⟩ ∧ PySem.W.codeIn K (.ref c) x = true
  kp : PySem.W.keepIn K (.ref f) = true
/-- a def by its name -/
structure Dg (P : Program) (w : World) (K : PySem.W.Frag) (mg : Str → Option Value) (base : Heap) (x : Str) (k : Nat) (ps : List Str) (sp : Sp) : Prop where
  ex : ∃ (f : Addr) (fd : FuncData), FnG P w K mg base k f fd ps sp ∧ mg x = some (.ref f) ∧ PySem.W.keepIn K (.ref f) = true ∧ Binds K fd ps []
section
variable {P : Program} {w : World} {K : PySem.W.Frag} {mg : Str → Option Value} {base : Heap}
theorem FunC.okG {x : Str} {st : Stmt} {f c : Addr} {fd : FuncData} {N ps : List Str} {k : Nat} {sp : Sp} (F : FunC K x st f fd c) (S : FnScope N ps (defScope st)) (len : ∀ vs H Q E, sp vs H Q E → vs.length = ps.length)
    (hbody : ∀ (A : Around) (outer : List Env) (s : Shared) (H : Hp) (vs : List V) (Q : VK) (E : XK), A.guards = some [] → Room k (A.deeper (envOfC x (defScope st) s.heap.objs.size f (.ref c))) → sp vs H Q E →
      ∃ t, PSs (cxOf CX0 P w K mg base N x (defScope st) f (.ref c) A outer s H E).nox (defBody st) t ∧ t { nx := fun _ H' => Q .non H', rt := Q } (L2.start N vs) H) : FnG P w K mg base (k + 1) f fd ps sp := by
  obtain ⟨oc, od, kV, doc, pm, an, ct, osl, rfl, lk, hcd⟩ := F.ex
  refine ⟨len, fun A outer s H us vs Q E hg hr e0 hb r hsp => LamX.run_ofS lk hcd S hr e0 hb r (len _ _ _ _ hsp) fun hr' => ?_⟩
  obtain ⟨t, h, q⟩ := hbody A outer s H vs Q E hg hr' hsp
  exact ⟨t, h.nox, q⟩
end
section
variable {X : Cx}
theorem pe_dg {x : Str} {k j : Nat} {ps : List Str} {sp : Sp} {e : Expr} {es : List Expr} {t : TA} {p pos : Pos} (D : Dg X.prog X.w X.K X.mg X.base x k ps sp) (hgd : X.A.guards = some []) (hr : Room j X.A) (ha : PA X (e :: es) t)
    (hk : k ≤ j := by decide) (hg : Gl X x := by rfl) (hdb : (x == ("__debug__" : Str)) = false := by decide) (he : starEach (e :: es) X.env = (false, eval e X.env) :: starEach es X.env := by rfl) (hpl : (backTo pos (starEach es X.env)).any (·.1) = false := by rfl) :
    PE X (.Call (.Name x p) (e :: es) [] pos) (fun σ H Q => t σ H fun vs H1 => sp vs H1 Q E0) := by
  obtain ⟨f, fd, F, hm, kp, hb⟩ := D.ex
  refine ⟨fun pins s σ H Q I h => ?_⟩
  refine wpAny_Call_Name_kw (ld_glob I hg hm ?_ hdb)
  refine PySem.W.callWith_K (h₀ := X.base) I.ok.mod.kin kp (thn (ha.run pos pins s σ H _ I h) fun us s1 hh => ?_) he hpl
  obtain ⟨vs, H1, I1, r, q⟩ := hh
  refine ⟨I1.kIn, ?_⟩
  have hl := F.len _ _ _ _ q
  have bd := hb s1 us I1.kIn (by
    rw [List.append_nil, ← r.length]
    exact hl)
  rw [List.append_nil] at bd
  refine wpAny_call (codeAny_mono (F.run X.A X.stack s1 H1 us vs Q E0 hgd (hr.mono hk) I1.env0 bd r q) fun r s' hq => ?_)
  cases r with
  | error e => exact pass0 pins σ H1 s1 e s' I1 hq
  | ok fl =>
    cases fl with
    | ret u => exact I1.after hq
    | next => exact False.elim hq
    | brk => exact False.elim hq
    | cont => exact False.elim hq
/-! ### repr of data -/
/-- data, or an empty dict -/
inductive Dx (K : PySem.W.Frag) (H : Hp) : V → PyData → Prop where
  | dat {v : V} {d : PyData} (h : Dp K H v d) (l : PyData.canLay0 d = true) : Dx K H v d
  | emp {a : Addr} (h : H a = some (.dK [])) : Dx K H (.ref a) (.dict [])
/-- data of a list or tuple; or a pair of a text and a thing -/
def rRepr (K : PySem.W.Frag) : List V → Hp → VK → Prop := fun xs H Q => ∃ (a : Addr) (d : PyData), xs = [.ref a] ∧
  ((Dp K H (.ref a) d ∧ PyData.canLay0 d = true) ∨ ∃ x y dy, d = .tuple [.str x, dy] ∧ SqT K H a [.str x, y] ∧ Dx K H y dy) ∧ PyData.showable d = true ∧ PyData.depth d ≤ 100 ∧ (PyData.shown d).length ≤ sizeLine ∧ Q (.str (PyData.shown d)) H
theorem dx_reads {pins : List (Addr × Obj)} {σ : L2.St} {H : Hp} {s : Shared} (I : Inv X pins σ H s) {v : V} {d : PyData} {u : Value} (h : Dx X.K H v d) (r : RelV v u) : ∃ as, Reads s.heap u d as ∧ (PyData.hasDict d = true → sysModules ∉ as) := by
  cases h with
  | dat h l =>
    obtain ⟨as, q⟩ := Dp.reads I d v u h r
    exact ⟨as, q, fun z => by
      rw [PyData.hasDict_of_canLay d l] at z
      cases z⟩
  | @emp a h =>
    cases r
    obtain ⟨_, hsys, vs, kv, o, es, ep, e1, e2, e3⟩ := (show ObjOk X.prog X.w H s.heap a (.dK []) from I.hok a _ h)
    have v0 : vs = [] := by
      cases kv
      rfl
    subst v0
    have z0 : es.toList = [] := by
      have z := e3.2.2.1
      cases q : es.toList with
      | nil => rfl
      | cons p r =>
        rw [q] at z
        cases z
    refine ⟨_, Reads.dict (kvs := []) e1 e2.1 e3.1 (by rw [z0]; exact .nil) (by rw [z0]; exact .nil), fun _ hm => ?_⟩
    have ha : sysModules = a := by simpa using hm
    rw [← ha] at hsys
    simp at hsys
theorem call_repr (hg : X.A.guards = some []) (hu : X.A.units + 101 < cLine) : CallR X (.builtin "repr") (rRepr X.K) := by
  intro pins s σ H xs us Q I r h
  obtain ⟨a, d, rfl, hd, hs, hdep, hlen, q⟩ := h
  rw [Vals.ref1 r]
  have fin : ∀ as, Reads s.heap (.ref a) d as → (PyData.hasDict d = true → sysModules ∉ as) → wpAny (model X.prog X.w) X.A (call (.builtin "repr") [.ref a]) (EP X pins σ Q) X.xe s := fun as rd hm =>
    repr_of_reads' rd hs hm hg (by omega) (fun _ _ e => e) (fun h' u tk hk => ⟨.str (PyData.shown d), H, I.kept hk, ⟨u, rfl⟩, q⟩) hlen
  rcases hd with ⟨hd, hl⟩ | ⟨x, y, dy, rfl, ht, hy⟩
  · obtain ⟨as, rd⟩ := Dp.reads I d (.ref a) (.ref a) hd rfl
    exact fin as rd fun z => by
      rw [PyData.hasDict_of_canLay d hl] at z
      cases z
  · obtain ⟨its, rv, ⟨o, ho, hc, n, hd⟩, _⟩ := I.tuple ht
    obtain ⟨u1, u2, rfl, r1, r2⟩ := vals2 rv
    obtain ⟨t, rfl⟩ := r1
    obtain ⟨bs, q2, m2⟩ := dx_reads I hy r2
    refine fin _ (Reads.tuple ho hc hd (ReadsAll.cons (Reads.str x t) (ReadsAll.cons q2 ReadsAll.nil))) fun z hm => ?_
    have z' : PyData.hasDict dy = true := by simpa [PyData.hasDict, PyData.hasDictAll] using z
    exact m2 z' (by simpa using hm)
end
end K1
set_option Elab.async false
set_option linter.all false
set_option maxRecDepth 100000
set_option maxHeartbeats 4000000
namespace K1
open PySem PySem.Spec PyProof.Rows L2
/-! ### the law called, where no repr is under way -/
def oTab : Obj := { cls := .none, data := .fields #[] }
/-- what is tracked at the call: the script (where the written part doesn't hold it), the tables -/
def hp0 (K : PySem.W.Frag) (a : Addr) (T : List Addr) (o : Obj) (xs : List V) : Hp := fun b => if b = a then (if K.lookup a = none then some (.frz o (.lst xs)) else none) else if b ∈ T then some (.tbl #[]) else none
section
variable {K : PySem.W.Frag} {a : Addr} {T : List Addr} {o : Obj} {xs : List V}
theorem hp0_cases (b : Addr) : hp0 K a T o xs b = none ∨ (b ∈ T ∧ b ≠ a ∧ hp0 K a T o xs b = some (.tbl #[])) ∨ (b = a ∧ K.lookup a = none ∧ hp0 K a T o xs b = some (.frz o (.lst xs))) := by
  unfold hp0
  by_cases h1 : b = a
  · by_cases h2 : K.lookup a = none
    · exact .inr (.inr ⟨h1, h2, by rw [if_pos h1, if_pos h2]⟩)
    · exact .inl (by rw [if_pos h1, if_neg h2])
  · by_cases h2 : b ∈ T
    · exact .inr (.inl ⟨h2, h1, by rw [if_neg h1, if_pos h2]⟩)
    · exact .inl (by rw [if_neg h1, if_neg h2])
theorem hp0_tab {b : Addr} (h : b ∈ T) (n : b ≠ a) : hp0 K a T o xs b = some (.tbl #[]) := by
  unfold hp0
  rw [if_neg n, if_pos h]
end
theorem law_callG {P : Program} {w : World} {K : PySem.W.Frag} {mg mb : Str → Option Value} {k : Nat} {fa a : Addr} {cs : List (Addr × Addr)} {fd : FuncData} {x : Str} {sp : Sp} {st : Shared} {us : List Value} {ns : List Int}
    (hK : K.In st.heap) (hN : st.heap.Ns mainGlobals mg) (hB : st.heap.Ns builtinsNs mb) (hBB : ∀ y : Str, y ≠ "__name__" → mb y = bootBuiltins y) (hL : st.heap.NoLimit) (hG : st.gens = #[])
    (tO : ∀ p ∈ cs, st.heap.get? p.2 = some oTab) (tK : ∀ p ∈ cs, K.lookup p.2 = none) (tC : ∀ p ∈ cs, PySem.W.CodeHd st.heap p.1 p.2)
    (hM : ∃ (m : Addr) (om : Obj), mg "__builtins__" = some (.ref m) ∧ m ≠ builtinsNs ∧ st.heap.get? m = some om ∧ om.cls = .type "module" ∧ om.dict = some builtinsNs ∧ om.data = .plain)
    (hA : st.heap.get? a = some { cls := .type "list", data := .seq us.toArray }) (hI : IntsAre us ns) (hl : ns.length ≤ sizeLine) (hr : Room k callerA)
    (F : ∀ base : Heap, K.In base → base.Ns mainGlobals mg → (∀ p ∈ cs, LamX.TabB base mg p.1 p.2) → FnG P w K mg base k fa fd [x] sp) (bd : ∀ (s : Shared) (u : Value), BindsTo s fd ⟨[u], []⟩ [(x, u)])
    (hsp : ∀ H : Hp, (∀ p ∈ cs, H p.2 = some (.tbl #[])) → SqL K H a (ns.map V.int) → sp [.ref a] H (fun v _ => v = .bl true) fun _ _ _ => False) :
    codeAny (model P w) callerA (.call (.ref fa) ⟨[.ref a], []⟩) (fun r s' => r = .ok (.ret (.bool true)) ∧ OldK st.heap s'.heap ∧ s'.os = st.os ∧ AllBare s'.gens) st := by
  have rel := vals_ints hI
  have lenU := hI.length
  generalize hT : cs.map (·.2) = T
  have inT : ∀ p ∈ cs, p.2 ∈ T := fun p hp => hT ▸ List.mem_map.mpr ⟨p, hp, rfl⟩
  have atT : ∀ b ∈ T, st.heap.get? b = some oTab := fun b hb => by
    rw [← hT] at hb
    obtain ⟨p, hp, rfl⟩ := List.mem_map.mp hb
    exact tO p hp
  have offT : ∀ b ∈ T, K.lookup b = none := fun b hb => by
    rw [← hT] at hb
    obtain ⟨p, hp, rfl⟩ := List.mem_map.mp hb
    exact tK p hp
  have naT : ∀ b ∈ T, b ≠ a := fun b hb z => by
    have q := atT b hb
    rw [z, hA] at q
    exact absurd (congrArg Obj.data (Option.some.inj q)) (by intro q; cases q)
  let ol : Obj := { cls := .type "list", data := .seq us.toArray }
  generalize hH : hp0 K a T ol (ns.map V.int) = H
  have cas : ∀ b, H b = none ∨ (b ∈ T ∧ b ≠ a ∧ H b = some (.tbl #[])) ∨ (b = a ∧ K.lookup a = none ∧ H b = some (.frz ol (.lst (ns.map V.int)))) := fun b => by
    rw [← hH]
    exact hp0_cases b
  have tabs : ∀ p ∈ cs, H p.2 = some (.tbl #[]) := fun p hp => by
    rw [← hH]
    exact hp0_tab (inT p hp) (naT _ (inT p hp))
  have lst : SqL K H a (ns.map V.int) := by
    cases q : K.lookup a with
    | none =>
      refine .inl (.inr ⟨ol, ?_⟩)
      rw [← hH]
      unfold hp0
      rw [if_pos rfl, if_pos q]
    | some o =>
      have z := hK a o q
      rw [hA] at z
      cases z
      exact .inr ⟨_, us.toArray, _, q, rfl, rfl, rfl, by rw [List.size_toArray, lenU]; exact hl, by simpa using rel⟩
  have hok : HOk P w H st.heap := fun b u e => by
    rcases cas b with z | ⟨z1, _, z2⟩ | ⟨z1, _, z2⟩
    · rw [z] at e
      cases e
    · rw [z2] at e
      cases e
      exact atT b z1
    · rw [z2] at e
      cases e
      rw [z1]
      exact ⟨hA, by rw [List.length_map]; exact hl, us, _, rel, hA⟩
  -- neither a list nor a table: not tracked
  have free : ∀ {b : Addr} {o : Obj}, st.heap.get? b = some o → (∀ vs n, o.data ≠ .seq vs n) → o.data ≠ .fields #[] → H b = none := fun {b o} e n1 n2 => by
    rcases cas b with z | ⟨z1, _, _⟩ | ⟨z1, _, _⟩
    · exact z
    · rw [atT b z1] at e
      cases e
      exact absurd rfl n2
    · rw [z1, hA] at e
      cases e
      exact absurd rfl (n1 _ _)
  have low : ∀ {b : Addr} {o : Obj}, st.heap.get? b = some o → H b = none → (hidT st.heap H).get? b = some o := fun e n => hidT_get e n
  have dct : ∀ {b : Addr} {m : Str → Option Value}, st.heap.Ns b m → (hidT st.heap H).Ns b m := fun {b m} ⟨o, es, ep, e, d, r⟩ =>
    ⟨o, es, ep, low e (free e (fun vs n z => by rw [d] at z; cases z) fun z => by rw [d] at z; cases z), d, r⟩
  have kIn : K.In (hidT st.heap H) := fun b o e => low (hK b o e) (by
    rcases cas b with z | ⟨z1, _, _⟩ | ⟨z1, z2, _⟩
    · exact z
    · rw [offT b z1] at e
      cases e
    · rw [z1, z2] at e
      cases e)
  have md : L2.Mod K mg (hidT st.heap H) := ⟨kIn, dct hN, ⟨mb, dct hB, hBB⟩, by
    obtain ⟨mc, q1, q2⟩ := hL
    exact ⟨mc, dct q1, q2⟩⟩
  have tbs : ∀ p ∈ cs, LamX.TabB (hidT st.heap H) mg p.1 p.2 := fun p hp => by
    have at0 := tO p hp
    refine ⟨?_, ?_, fun z => ?_⟩
    · obtain ⟨o, vs, file, tf, fl, tg, inF, tx, tt, q1, r1, r2, r3, rest⟩ := tC p hp
      refine ⟨o, vs, file, tf, fl, tg, inF, tx, tt, low q1 (free q1 (fun vs n z => ?_) fun z => ?_), r1, r2, r3, rest⟩
      · rw [r2] at z
        cases z
      · rw [r2] at z
        cases z
        simp at r3
    · obtain ⟨m, om, q1, q2, q3, q4, q5, q6⟩ := hM
      have n1 : m ≠ mainGlobals := fun q => by
        obtain ⟨o, es, ep, e, d, _⟩ := hN
        rw [q, e] at q3
        cases q3
        rw [d] at q6
        cases q6
      have n2 : m ≠ p.2 := fun q => by
        rw [q, at0] at q3
        cases q3
        cases q6
      refine ⟨m, om, q1, q2, n1, n2, low q3 (free q3 (fun vs n z => ?_) fun z => ?_), q4, q5, q6⟩
      · rw [q6] at z
        cases z
      · rw [q6] at z
        cases z
    · obtain ⟨o, es, ep, e, d, _⟩ := hN
      rw [z, at0] at e
      cases e
      cases d
  have ev : Env0 P w K mg (hidT st.heap H) callerA [] st H :=
    ⟨rfl, md, fun b o e => of_hidT e, Nat.le_of_eq (hidT_size _ _), trivial, fun b hb => absurd (show b ∈ ([] : List Addr) from hb) (by simp), hok, .of_eq hG⟩
  refine codeAny_mono ((F _ kIn (dct hN) tbs).run callerA [] st H [.ref a] [.ref a] _ _ rfl hr ev (bd st (.ref a)) (.cons rfl .nil) (hsp H tabs lst)) fun r s' h => ?_
  cases r with
  | error e => exact (show False from h).elim
  | ok fl =>
    cases fl with
    | next => exact False.elim h
    | brk => exact False.elim h
    | cont => exact False.elim h
    | ret u =>
      obtain ⟨v, H', os, bare, un, hok', rv, q⟩ := h
      cases (show v = .bl true from q)
      cases (show u = Value.bool true from rv)
      have keeps : ∀ b o, b ∉ T → st.heap.get? b = some o → s'.heap.get? b = some o := fun b o nb e => by
        rcases cas b with z | ⟨z1, _, _⟩ | ⟨z1, z2, z3⟩
        · exact un.keep b o e z (by intro q; exact absurd (show b ∈ ([] : List Addr) from q) (by simp)) (by simp)
        · exact absurd z1 nb
        · obtain ⟨e2, _⟩ := hok' b _ (un.frzs b _ _ z3)
          rw [z1, hA] at e
          cases e
          exact e2
      have grown : ∀ p ∈ cs, ∃ more : Array Value, s'.heap.get? p.2 = some { cls := .none, data := .fields more } := fun p hp => by
        obtain ⟨more, z⟩ := un.tbls p.2 #[] (tabs p hp)
        exact ⟨_, hok' p.2 _ z⟩
      refine ⟨rfl, ⟨fun b o e => ?_, fun b o e => ?_⟩, os, bare⟩
      · by_cases hb : b ∈ T
        · rw [← hT] at hb
          obtain ⟨p, hp, rfl⟩ := List.mem_map.mp hb
          obtain ⟨more, hm⟩ := grown p hp
          rw [tO p hp] at e
          cases e
          exact .inr (.inl ⟨((tC p hp).tab (tO p hp)).isCodeTable, rfl, #[], more, rfl, by rw [Array.empty_append]; exact hm⟩)
        · exact .inl (keeps b o hb e)
      · by_cases hb : b ∈ T
        · rw [← hT] at hb
          obtain ⟨p, hp, rfl⟩ := List.mem_map.mp hb
          obtain ⟨more, hm⟩ := grown p hp
          exact ⟨_, hm⟩
        · exact ⟨o, keeps b o hb e⟩
/-- what is known of the law at the head's heap -/
def LawG (l : PySem.W.OpenLaw) (w : World) (K : PySem.W.Frag) (k n : Nat) (x : Str) (mg : Str → Option Value) (fa : Addr) (h : Heap) : Prop :=
  ∃ (fd : FuncData) (cs : List (Addr × Addr)) (sp : Sp), (∀ p ∈ cs, h.get? p.2 = some oTab) ∧ (∀ p ∈ cs, K.lookup p.2 = none) ∧ (∀ p ∈ cs, PySem.W.CodeHd h p.1 p.2) ∧ (∀ (s : Shared) (u : Value), BindsTo s fd ⟨[u], []⟩ [(x, u)]) ∧
    (∀ (H : Hp) (a : Addr) (ns : List Int), ns.length ≤ n → (∀ p ∈ cs, H p.2 = some (.tbl #[])) → SqL K H a (ns.map V.int) → sp [.ref a] H (fun v _ => v = .bl true) fun _ _ _ => False) ∧
    ∀ base : Heap, K.In base → base.Ns mainGlobals mg → (∀ p ∈ cs, LamX.TabB base mg p.1 p.2) → FnG l.prog w K mg base k fa fd [x] sp
theorem walk_G {l : PySem.W.OpenLaw} {n k : Nat} {q : Program} {loose : List Str} {XP : (Str → Option Value) → Heap → Prop} {YP : World → Heap → Prop} {d : DefRec} {K : Params → PySem.W.Frag} {x : Str}
    (hn : l.most = some n) (hn2 : n ≤ sizeLine) (hdf : d.params.defaults = []) (hr : Room k callerA) (hY : ∀ (w : World) (h : Heap), YP w h → (K w.params).In h)
    (F : ∀ (w : World) (mg : Str → Option Value) (fa : Addr) (h : Heap), YP w h → (K w.params).In h → h.Ns mainGlobals mg → mg d.name = some (.ref fa) → LawG l w (K w.params) k n x mg fa h) :
    PySem.W.WalkO q loose XP YP l.row.toRowW d [] (fun f vs => PySem.call f vs) := by
  refine Att.attach_callB hn hdf fun w _ st mg mb fa o pm cd doc a us ns G Y _ _ _ hmg hobj hints hlen _ hgen => ?_
  have hK := hY w _ Y
  obtain ⟨fd, cs, sp, h1, h2, h3, h4, h5, h6⟩ := F w mg fa _ Y hK G.T.g hmg
  exact law_callG hK G.T.g G.T.b G.T.builtins G.T.nolimit hgen h1 h2 h3 G.T.bmain hobj hints (Nat.le_trans hlen hn2) hr h6 h4 fun H hH hS => h5 H a ns hlen hH hS
end K1
set_option Elab.async false
set_option linter.all false
set_option maxRecDepth 100000
set_option maxHeartbeats 4000000
namespace K1
open PySem PySem.Spec PyProof.Rows L2
/-! ### things: a text, a tuple, anything else -/
inductive G where
  | s (x : Str)
  | t (ps : List G)
  | l (ps : List G)
  | o (d : PyData)
def isS : G → Bool | .s _ => true | _ => false
def isT : G → Bool | .t _ => true | _ => false
def hd : G → Str | .s x => x | _ => Str.empty
def maxl (ns : List Nat) : Nat := ns.foldr max 0
def text : G → Str
  | .s x => x
  | .t [] => Str.empty
  | .t (h :: ps) => if ps.isEmpty then hd h else hd h ++ Str.ofString "(" ++ Txt.join (Str.ofString ",") (ps.map text) ++ Str.ofString ")"
  | .l _ => Str.empty
  | .o _ => Str.empty
def points : G → Nat
  | .t (_ :: ps) => 1 + (ps.map points).sum
  | _ => 1
def deep : G → Nat
  | .t (_ :: ps) => 1 + maxl (ps.map deep)
  | _ => 1
def wide : G → Nat
  | .t (_ :: ps) => max ps.length (maxl (ps.map wide))
  | _ => 0
def few : G → Bool
  | .t (_ :: ps) => decide (ps.length + 1 < 10) && (ps.map few).all id
  | _ => true
def sz : G → Nat
  | .t ps => 1 + (ps.map sz).sum
  | .l ps => 1 + (ps.map sz).sum
  | _ => 1
def dp : G → Nat
  | .t ps => 1 + maxl (ps.map dp)
  | .l ps => 1 + maxl (ps.map dp)
  | _ => 1
/-- what else may stand in things -/
def oddB : PyData → Bool
  | .none => true
  | .bool _ => true
  | .int i => decide (i.natAbs < 100)
  | .dict [] => true
  | _ => false
def fine : G → Bool
  | .s x => decide (x.length ≤ 10) && PyData.strOk x
  | .t ps => (ps.map fine).all id
  | .l ps => (ps.map fine).all id
  | .o d => oddB d
/-- built as a term: texts, and tuples that begin with one -/
def shp : G → Bool
  | .s _ => true
  | .t (.s _ :: ps) => (ps.map shp).all id
  | _ => false
def toD : G → PyData
  | .s x => .str x
  | .t ps => .tuple (ps.map toD)
  | .l ps => .list (ps.map toD)
  | .o d => d
theorem maxl_le {ns : List Nat} {m : Nat} : maxl ns ≤ m ↔ ∀ n ∈ ns, n ≤ m := by
  induction ns with
  | nil => simp [maxl]
  | cons a r ih =>
    show max a (maxl r) ≤ m ↔ _
    rw [Nat.max_le, ih]
    simp
theorem le_maxl {ns : List Nat} {n : Nat} (h : n ∈ ns) : n ≤ maxl ns := maxl_le.mp (Nat.le_refl _) n h
theorem le_sum {ns : List Nat} {n : Nat} (h : n ∈ ns) : n ≤ ns.sum := by
  induction ns with
  | nil => cases h
  | cons a r ih =>
    rw [List.sum_cons]
    rcases List.mem_cons.mp h with rfl | h
    · omega
    · have := ih h
      omega
theorem len_le_sum {ns : List Nat} (h : ∀ n ∈ ns, 1 ≤ n) : ns.length ≤ ns.sum := by
  induction ns with
  | nil => simp
  | cons a r ih =>
    rw [List.sum_cons, List.length_cons]
    have h1 := h a List.mem_cons_self
    have h2 := ih fun n hn => h n (List.mem_cons_of_mem _ hn)
    omega
theorem dp_l (ps : List G) : dp (.l ps) = 1 + maxl (ps.map dp) := by simp only [dp]
theorem sz_l (ps : List G) : sz (.l ps) = 1 + (ps.map sz).sum := by simp only [sz]
theorem fine_l (ps : List G) : fine (.l ps) = ps.all fine := by
  rw [fine, List.all_map]
  rfl
theorem dp_t (ps : List G) : dp (.t ps) = 1 + maxl (ps.map dp) := by simp only [dp]
theorem sz_t (ps : List G) : sz (.t ps) = 1 + (ps.map sz).sum := by simp only [sz]
theorem fine_t (ps : List G) : fine (.t ps) = ps.all fine := by
  rw [fine, List.all_map]
  rfl
theorem dp_pos (g : G) : 1 ≤ dp g := by
  cases g with
  | t ps => rw [dp_t]; omega
  | l ps => rw [dp_l]; omega
  | _ => simp [dp]
theorem sz_pos (g : G) : 1 ≤ sz g := by
  cases g with
  | t ps => rw [sz_t]; omega
  | l ps => rw [sz_l]; omega
  | _ => simp [sz]
theorem dp_mem {ps : List G} {p : G} {n : Nat} (h : dp (.t ps) ≤ n + 1) (hp : p ∈ ps) : dp p ≤ n := by
  rw [dp_t] at h
  have := le_maxl (List.mem_map.mpr ⟨p, hp, rfl⟩ : dp p ∈ ps.map dp)
  omega
theorem sz_mem {ps : List G} {p : G} (hp : p ∈ ps) : sz p < sz (.t ps) := by
  rw [sz_t]
  have := le_sum (List.mem_map.mpr ⟨p, hp, rfl⟩ : sz p ∈ ps.map sz)
  omega
theorem sz_len (ps : List G) : ps.length < sz (.t ps) := by
  rw [sz_t]
  have := len_le_sum (ns := ps.map sz) fun n hn => by
    obtain ⟨p, _, rfl⟩ := List.mem_map.mp hn
    exact sz_pos p
  rw [List.length_map] at this
  omega
theorem fine_mem {ps : List G} {p : G} (h : fine (.t ps) = true) (hp : p ∈ ps) : fine p = true := by
  rw [fine_t, List.all_eq_true] at h
  exact h p hp
theorem shp_t (x : Str) (ps : List G) : shp (.t (.s x :: ps)) = ps.all shp := by
  rw [shp, List.all_map]
  rfl
theorem shp_cases {g : G} (h : shp g = true) : (∃ x, g = .s x) ∨ ∃ x ps, g = .t (.s x :: ps) ∧ ∀ p ∈ ps, shp p = true := by
  cases g with
  | s x => exact .inl ⟨x, rfl⟩
  | o => simp [shp] at h
  | l ps => simp [shp] at h
  | t ps =>
    cases ps with
    | nil => simp [shp] at h
    | cons q ps =>
      cases q with
      | s x =>
        rw [shp_t, List.all_eq_true] at h
        exact .inr ⟨x, ps, rfl, h⟩
      | _ => simp [shp] at h
theorem text_one (h : G) : text (.t [h]) = hd h := by
  rw [text]
  rfl
theorem text_more (h p : G) (ps : List G) : text (.t (h :: p :: ps)) = hd h ++ Str.ofString "(" ++ Txt.join (Str.ofString ",") ((p :: ps).map text) ++ Str.ofString ")" := by
  rw [text]
  rfl
theorem points_t (h : G) (ps : List G) : points (.t (h :: ps)) = 1 + (ps.map points).sum := by simp only [points]
theorem deep_t (h : G) (ps : List G) : deep (.t (h :: ps)) = 1 + maxl (ps.map deep) := by simp only [deep]
theorem wide_t (h : G) (ps : List G) : wide (.t (h :: ps)) = max ps.length (maxl (ps.map wide)) := by simp only [wide]
theorem few_t (h : G) (ps : List G) : few (.t (h :: ps)) = (decide (ps.length + 1 < 10) && ps.all few) := by
  rw [few, List.all_map]
  rfl
theorem points_pos (g : G) : 1 ≤ points g := by
  cases g with
  | t ps =>
    cases ps with
    | nil => simp [points]
    | cons h ps => rw [points_t]; omega
  | _ => simp [points]
theorem deep_pos (g : G) : 1 ≤ deep g := by
  cases g with
  | t ps =>
    cases ps with
    | nil => simp [deep]
    | cons h ps => rw [deep_t]; omega
  | _ => simp [deep]
theorem join_len (c : Str) : ∀ ys : List Str, (Txt.join c ys).length ≤ (ys.map (·.length)).sum + ys.length * c.length := fun ys => by
  rw [show Txt.join c ys = Str.join c ys from PySem.StrLaws.glued_eq_join _ _]
  induction ys with
  | nil => exact Nat.zero_le _
  | cons y r ih =>
    cases r with
    | nil =>
      show y.length ≤ _
      simp
    | cons z r =>
      show (y ++ c ++ Str.join c (z :: r)).length ≤ _
      rw [app_len, app_len]
      simp only [List.map_cons, List.sum_cons, List.length_cons] at ih ⊢
      rw [Nat.add_mul, Nat.one_mul] at ih ⊢
      rw [Nat.add_mul, Nat.one_mul]
      omega
theorem sum_map_le {α : Type} {f g : α → Nat} : ∀ {l : List α}, (∀ a ∈ l, f a ≤ g a) → (l.map f).sum ≤ (l.map g).sum
  | [], _ => Nat.le_refl _
  | a :: r, h => by
    rw [List.map_cons, List.map_cons, List.sum_cons, List.sum_cons]
    have h1 := h a List.mem_cons_self
    have h2 := sum_map_le (l := r) fun b hb => h b (List.mem_cons_of_mem _ hb)
    omega
theorem hd_len {g : G} (h : fine g = true) : (hd g).length ≤ 10 := by
  cases g with
  | s x =>
    simp only [fine, Bool.and_eq_true, decide_eq_true_iff] at h
    exact h.1
  | _ => exact (by decide +kernel : (Str.empty).length ≤ 10)
theorem sum_mul (c : Nat) : ∀ ns : List Nat, (ns.map fun n => c * n).sum = c * ns.sum
  | [] => rfl
  | n :: r => by
    rw [List.map_cons, List.sum_cons, List.sum_cons, sum_mul c r, Nat.mul_add]
theorem succ_sum : ∀ l : List G, (l.map fun q => (text q).length + 1).sum = (l.map ((fun x => x.length) ∘ text)).sum + l.length
  | [] => rfl
  | a :: r => by
    have ih := succ_sum r
    simp only [List.map_cons, List.sum_cons, List.length_cons, Function.comp] at ih ⊢
    omega
theorem text_len_t (h p : G) (ps : List G) (h0 : (hd h).length ≤ 10) (hq : ∀ q ∈ p :: ps, (text q).length + 1 ≤ 13 * sz q) : (text (.t (h :: p :: ps))).length + 1 ≤ 13 * sz (.t (h :: p :: ps)) := by
  rw [text_more, sz_t, app_len, app_len, app_len]
  have e1 : (Str.ofString "(").length = 1 := by decide +kernel
  have e2 : (Str.ofString ")").length = 1 := by decide +kernel
  have e3 : (Str.ofString ",").length = 1 := by decide +kernel
  rw [e1, e2]
  generalize hl : p :: ps = l at *
  have hj := join_len (Str.ofString ",") (l.map text)
  rw [e3, Nat.mul_one, List.map_map, List.length_map] at hj
  have hs : (l.map fun q => (text q).length + 1).sum ≤ (l.map fun q => 13 * sz q).sum := sum_map_le hq
  have e4 := succ_sum l
  have e5 : (l.map fun q => 13 * sz q).sum = 13 * (l.map sz).sum := by
    rw [← sum_mul, List.map_map]
    rfl
  have h2 := sz_pos h
  rw [List.map_cons, List.sum_cons]
  generalize (l.map sz).sum = S at *
  generalize (l.map ((fun x => x.length) ∘ text)).sum = T at *
  generalize (Txt.join (Str.ofString ",") (l.map text)).length = U at *
  generalize (hd h).length = V at *
  generalize sz h = Z at *
  omega
theorem empty_len : (Str.empty).length = 0 := by decide +kernel
theorem text_len (n : Nat) : ∀ (g : G), dp g ≤ n → fine g = true → (text g).length + 1 ≤ 13 * sz g := by
  induction n with
  | zero =>
    intro g h _
    have := dp_pos g
    omega
  | succ n ih =>
    intro g hdp hf
    cases g with
    | s x =>
      have h2 := hd_len hf
      have h3 := sz_pos (.s x)
      have h4 : text (.s x) = hd (.s x) := by simp [text, hd]
      rw [h4]
      omega
    | o d =>
      have h3 := sz_pos (.o d)
      have h4 : text (.o d) = Str.empty := by simp [text]
      rw [h4, empty_len]
      omega
    | l ps =>
      have h3 := sz_pos (.l ps)
      have h4 : text (.l ps) = Str.empty := by simp [text]
      rw [h4, empty_len]
      omega
    | t gs =>
      cases gs with
      | nil =>
        rw [text, empty_len]
        have := sz_pos (.t [])
        omega
      | cons h r =>
        have h0 := hd_len (fine_mem hf List.mem_cons_self)
        cases r with
        | nil =>
          have h2 := sz_mem (ps := [h]) List.mem_cons_self
          have h3 := sz_pos h
          rw [text_one]
          omega
        | cons p ps => exact text_len_t h p ps h0 fun q hq => ih q (dp_mem hdp (List.mem_cons_of_mem _ hq)) (fine_mem hf (List.mem_cons_of_mem _ hq))
/-! ### how they stand in the heap -/
mutual
inductive In (K : PySem.W.Frag) (H : Hp) : V → G → Prop
  | s (x : Str) : In K H (.str x) (.s x)
  | t {a : Addr} {xs : List V} {gs : List G} (h : SqT K H a xs) (r : InL K H xs gs) : In K H (.ref a) (.t gs)
  | non : In K H .non (.o .none)
  | bl (b : Bool) : In K H (.bl b) (.o (.bool b))
  | int (i : Int) : In K H (.int i) (.o (.int i))
  | lst {a : Addr} {xs : List V} {gs : List G} (h : H a = some (.lst xs)) (r : InL K H xs gs) : In K H (.ref a) (.l gs)
  | dic {a : Addr} (h : H a = some (.dK [])) : In K H (.ref a) (.o (.dict []))
inductive InL (K : PySem.W.Frag) (H : Hp) : List V → List G → Prop
  | nil : InL K H [] []
  | cons {v : V} {vs : List V} {g : G} {gs : List G} : In K H v g → InL K H vs gs → InL K H (v :: vs) (g :: gs)
end
abbrev Ext := LamX.ExtN
theorem Ext.of {H H' : Hp} (s : Same H H') : Ext H H' := LamX.ExtN.of s
theorem Ext.sqt {K : PySem.W.Frag} {H H' : Hp} {a : Addr} {xs : List V} (s : Ext H H') (h : SqT K H a xs) : SqT K H' a xs := by
  rcases h with (h | ⟨o, h⟩) | h
  · exact .inl (.inl (s _ _ h (by intro _ z; cases z)))
  · exact .inl (.inr ⟨o, s _ _ h (by intro _ z; cases z)⟩)
  · exact .inr h
theorem Ext.sql {K : PySem.W.Frag} {H H' : Hp} {a : Addr} {xs : List V} (s : Ext H H') (h : SqL K H a xs) : SqL K H' a xs := by
  rcases h with (h | ⟨o, h⟩) | h
  · exact .inl (.inl (s _ _ h (by intro _ z; cases z)))
  · exact .inl (.inr ⟨o, s _ _ h (by intro _ z; cases z)⟩)
  · exact .inr h
mutual
theorem in_ext {K : PySem.W.Frag} {H H' : Hp} (s : Ext H H') : ∀ (g : G) (v : V), In K H v g → In K H' v g
  | .s _, _, .s x => .s x
  | .t gs, _, .t h r => .t (s.sqt h) (inL_ext s gs _ r)
  | .o _, _, .non => .non
  | .o _, _, .bl b => .bl b
  | .o _, _, .int i => .int i
  | .l gs, _, .lst h r => .lst (s _ _ h (by intro _ z; cases z)) (inL_ext s gs _ r)
  | .o _, _, .dic h => .dic (s _ _ h (by intro _ z; cases z))
theorem inL_ext {K : PySem.W.Frag} {H H' : Hp} (s : Ext H H') : ∀ (gs : List G) (vs : List V), InL K H vs gs → InL K H' vs gs
  | [], _, .nil => .nil
  | g :: gs, _, .cons h t => .cons (in_ext s g _ h) (inL_ext s gs _ t)
end
theorem In.ext {K : PySem.W.Frag} {H H' : Hp} {v : V} {g : G} (s : Ext H H') (h : In K H v g) : In K H' v g := in_ext s g v h
theorem InL.ext {K : PySem.W.Frag} {H H' : Hp} {vs : List V} {gs : List G} (s : Ext H H') (h : InL K H vs gs) : InL K H' vs gs := inL_ext s gs vs h
theorem In.same {K : PySem.W.Frag} {H H' : Hp} {v : V} {g : G} (s : Same H H') (h : In K H v g) : In K H' v g := h.ext (.of s)
theorem InL.same {K : PySem.W.Frag} {H H' : Hp} {vs : List V} {gs : List G} (s : Same H H') (h : InL K H vs gs) : InL K H' vs gs := h.ext (.of s)
theorem InL.len {K : PySem.W.Frag} {H : Hp} : ∀ {vs : List V} {gs : List G}, InL K H vs gs → vs.length = gs.length
  | _, _, .nil => rfl
  | _, _, .cons _ t => by rw [List.length_cons, List.length_cons, t.len]
theorem InL.at {K : PySem.W.Frag} {H : Hp} : ∀ {vs : List V} {gs : List G} {i : Nat} {v : V}, InL K H vs gs → vs[i]? = some v → ∃ g, gs[i]? = some g ∧ In K H v g
  | _, _, i, v, .nil, h => by simp at h
  | _, _, 0, v, .cons (g := g) h _, e => ⟨g, rfl, by
      have e' := Option.some.inj e
      rw [← e']
      exact h⟩
  | _, _, i + 1, v, .cons _ t, e => t.at (i := i) e
theorem InL.get {K : PySem.W.Frag} {H : Hp} : ∀ {vs : List V} {gs : List G} {i : Nat} {g : G}, InL K H vs gs → gs[i]? = some g → ∃ v, vs[i]? = some v ∧ In K H v g
  | _, _, i, v, .nil, h => by simp at h
  | _, _, 0, _, .cons (v := v) h _, e => ⟨v, rfl, by
      have e' := Option.some.inj e
      rw [← e']
      exact h⟩
  | _, _, i + 1, v, .cons _ t, e => t.get (i := i) e
theorem InL.drop {K : PySem.W.Frag} {H : Hp} : ∀ {vs : List V} {gs : List G} (n : Nat), InL K H vs gs → InL K H (vs.drop n) (gs.drop n)
  | _, _, 0, h => h
  | _, _, n + 1, .nil => .nil
  | _, _, n + 1, .cons _ t => t.drop n
theorem InL.take {K : PySem.W.Frag} {H : Hp} : ∀ {vs : List V} {gs : List G} (n : Nat), InL K H vs gs → InL K H (vs.take n) (gs.take n)
  | _, _, 0, _ => .nil
  | _, _, n + 1, .nil => .nil
  | _, _, n + 1, .cons h t => .cons h (t.take n)
theorem InL.app {K : PySem.W.Frag} {H : Hp} : ∀ {vs us : List V} {gs hs : List G}, InL K H vs gs → InL K H us hs → InL K H (vs ++ us) (gs ++ hs)
  | _, _, _, _, .nil, h => h
  | _, _, _, _, .cons h t, h' => .cons h (t.app h')
/-- of what kind -/
theorem In.kind {K : PySem.W.Frag} {H : Hp} {v : V} {g : G} (h : In K H v g) : ∃ d : PyData, TyX K H v (.type (tyOf d)) ∧ isStr d = isS g ∧ isTup d = isT g := by
  cases h with
  | s x => exact ⟨.str x, .base (.str x), rfl, rfl⟩
  | t h _ => exact ⟨.tuple [], tyx_tup h, rfl, rfl⟩
  | non => exact ⟨.none, .base .non, rfl, rfl⟩
  | bl b => exact ⟨.bool b, .base (.bl b), rfl, rfl⟩
  | int i => exact ⟨.int i, .base (.int i), rfl, rfl⟩
  | lst h _ => exact ⟨.list [], .base (.lst h), rfl, rfl⟩
  | dic h => exact ⟨.dict [], .base (.dK h), rfl, rfl⟩
theorem In.str {K : PySem.W.Frag} {H : Hp} {v : V} {x : Str} (h : In K H v (.s x)) : v = .str x := by cases h; rfl
theorem In.tup {K : PySem.W.Frag} {H : Hp} {v : V} {gs : List G} (h : In K H v (.t gs)) : ∃ a xs, v = .ref a ∧ SqT K H a xs ∧ InL K H xs gs := by
  cases h with
  | t h r => exact ⟨_, _, rfl, h, r⟩
theorem inL_dp {K : PySem.W.Frag} {H : Hp} : ∀ (gs : List G) (vs : List V), (∀ g ∈ gs, ∀ v, In K H v g → Dp K H v (toD g)) → InL K H vs gs → DpAll K H vs (gs.map toD)
  | [], _, _, .nil => .nil
  | g :: gs, _, hs, .cons h t => .cons (hs g List.mem_cons_self _ h) (inL_dp gs _ (fun e he => hs e (List.mem_cons_of_mem _ he)) t)
theorem in_dpN {K : PySem.W.Frag} {H : Hp} (n : Nat) : ∀ (g : G) (v : V), dp g ≤ n → shp g = true → In K H v g → Dp K H v (toD g) := by
  induction n with
  | zero =>
    intro g v h
    have := dp_pos g
    omega
  | succ n ih =>
    intro g v hd hs hi
    rcases shp_cases hs with ⟨x, rfl⟩ | ⟨x, ps, rfl, hp⟩
    · rw [hi.str, toD]
      exact .str x
    · obtain ⟨a, xs, rfl, h, r⟩ := hi.tup
      rw [toD]
      refine .tup h (inL_dp _ _ (fun g hg w hw => ?_) r)
      rcases List.mem_cons.mp hg with rfl | hg
      · rw [hw.str, toD]
        exact .str x
      · exact ih g w (dp_mem hd (List.mem_cons_of_mem _ hg)) (hp g hg) hw
theorem in_dp {K : PySem.W.Frag} {H : Hp} (g : G) (v : V) (hs : shp g = true) (h : In K H v g) : Dp K H v (toD g) := in_dpN (dp g) g v (Nat.le_refl _) hs h
end K1
set_option Elab.async false
set_option linter.all false
set_option maxRecDepth 100000
set_option maxHeartbeats 4000000
namespace K1
open PySem PySem.Spec PyProof.Rows L2
/-! ### tuples stand -/
def TupK (H H' : Hp) : Prop := ∀ b o, H b = some o → ((∃ xs, o = .tup xs) ∨ ∃ ob xs, o = .frz ob (.tup xs)) → H' b = some o
theorem TupK.sqt {K : PySem.W.Frag} {H H' : Hp} {a : Addr} {xs : List V} (s : TupK H H') (h : SqT K H a xs) : SqT K H' a xs := by
  rcases h with (h | ⟨o, h⟩) | h
  · exact .inl (.inl (s _ _ h (.inl ⟨_, rfl⟩)))
  · exact .inl (.inr ⟨o, s _ _ h (.inr ⟨_, _, rfl⟩)⟩)
  · exact .inr h
theorem TupK.of {H H' : Hp} (e : Ext H H') : TupK H H' := fun b o h k => e b o h (by
  rintro ps rfl
  rcases k with ⟨xs, z⟩ | ⟨ob, xs, z⟩ <;> cases z)
theorem TupK.off {H H1 : Hp} {D : Addr} {ys : List V} {o : HO} (e : TupK H H1) (h : H1 D = some (.lst ys)) : TupK H (upd H1 D o) := fun b u h1 k => by
  have q := e b u h1 k
  rw [upd_ne (fun z => by
    rw [z, h] at q
    rcases k with ⟨xs, z⟩ | ⟨ob, xs, z⟩ <;> (subst z; cases q))]
  exact q
theorem TupK.trans {H H1 H2 : Hp} (a : TupK H H1) (b : TupK H1 H2) : TupK H H2 := fun c o h k => b c o (a c o h k) k
theorem inL_tk0 {K : PySem.W.Frag} {H H' : Hp} : ∀ (gs : List G) (vs : List V), (∀ g ∈ gs, ∀ v, In K H v g → In K H' v g) → InL K H vs gs → InL K H' vs gs
  | [], _, _, .nil => .nil
  | g :: gs, _, hs, .cons h t => .cons (hs g List.mem_cons_self _ h) (inL_tk0 gs _ (fun e he => hs e (List.mem_cons_of_mem _ he)) t)
theorem in_tkN {K : PySem.W.Frag} {H H' : Hp} (s : TupK H H') (n : Nat) : ∀ (g : G) (v : V), dp g ≤ n → shp g = true → In K H v g → In K H' v g := by
  induction n with
  | zero =>
    intro g v h
    have := dp_pos g
    omega
  | succ n ih =>
    intro g v hd hs hi
    rcases shp_cases hs with ⟨x, rfl⟩ | ⟨x, ps, rfl, hp⟩
    · rw [hi.str]
      exact .s x
    · obtain ⟨a, xs, rfl, h, r⟩ := hi.tup
      refine .t (s.sqt h) (inL_tk0 _ _ (fun g hg w hw => ?_) r)
      rcases List.mem_cons.mp hg with rfl | hg
      · rw [hw.str]
        exact .s x
      · exact ih g w (dp_mem hd (List.mem_cons_of_mem _ hg)) (hp g hg) hw
theorem in_tk {K : PySem.W.Frag} {H H' : Hp} (s : TupK H H') (g : G) (v : V) (hs : shp g = true) (h : In K H v g) : In K H' v g := in_tkN s (dp g) g v (Nat.le_refl _) hs h
theorem inL_tk {K : PySem.W.Frag} {H H' : Hp} (s : TupK H H') (gs : List G) (vs : List V) (hs : ∀ g ∈ gs, shp g = true) (h : InL K H vs gs) : InL K H' vs gs := inL_tk0 gs vs (fun g hg v hv => in_tk s g v (hs g hg) hv) h
open PySem.W (EachIs)
theorem each_app {α β : Type} {R : α → β → Prop} {x : α} {y : β} (h : R x y) : ∀ {as : List α} {bs : List β}, EachIs R as bs → EachIs R (as ++ [x]) (bs ++ [y])
  | _, _, .nil => .cons h .nil
  | _, _, .cons q t => .cons q (each_app h t)
theorem Ext.updD {H1 H : Hp} {D : Addr} {o : HO} (e : Ext H1 H) (h : H1 D = none) : Ext H1 (upd H D o) := fun b u h1 n => by
  rw [upd_ne (ne_of_none h1 h)]
  exact e b u h1 n
theorem Ext.trans {H H1 H2 : Hp} (a : Ext H H1) (b : Ext H1 H2) : Ext H H2 := LamX.ExtN.trans a b
theorem Ext.refl (H : Hp) : Ext H H := LamX.ExtN.refl H
section
variable {K : PySem.W.Frag} {a : Addr} {xs : List V} {gs : List G} {j : Nat} {te : TE} {tt : TT} {σ : L2.St} {H1 : Hp} {D : Addr} {Qd : Hp → Prop} {J : Hp → Prop}
/-- [e for x in xs], xs of things at a tuple: at each turn all stands -/
theorem lc_in (R : Hp → V → G → Prop) (hD : H1 D = none) (hx : SqT K H1 a xs) (hg : InL K H1 xs gs) (hl : xs.length ≤ 100000)
    (mono : ∀ y g H H', R H y g → TupK H H' → R H' y g) (hw : ∀ x, wipe ((wipe σ [j]).set j (some x)) [j] = wipe σ [j])
    (hJ : ∀ H ys ys', J H → H D = some (.lst ys) → J (upd H D (.lst ys'))) (j0 : J (upd H1 D (.lst [])))
    (turn : ∀ x g H, g ∈ gs → In K H x g → Ext H1 H → J H → ∀ Q : VK, (∀ y H', Ext H H' → J H' → R H' y g → Q y H') → te ((wipe σ [j]).set j (some x)) H Q)
    (fin : ∀ H ys, Ext H1 H → J H → H D = some (.lst ys) → EachIs (R H) ys gs → Qd H) :
    ∃ W : Nat → Nat → Hp → Prop, (∃ m, W 0 m (upd H1 D (.lst []))) ∧ ∀ i m H, W i m H →
      ((Itt K a).stop i H ∧ Qd H) ∨ ((Itt K a).go i H ∧ ∃ Nx : Hp → Prop, (∀ H', Nx H' → ∃ m', m' < m ∧ W (i + 1) m' H') ∧ ∀ x H', (Itt K a).yld i H x H' → gName j x (wipe σ [j]) H' fun σ2 H2 => wipe σ2 [j] = wipe σ [j] ∧ tYes σ2 H2 fun b H3 =>
        if b = true then te σ2 H3 fun y H4 => ∃ acc, H4 D = some (.lst acc) ∧ acc.length < sizeLine ∧ Nx (upd H4 D (.lst (acc ++ [y]))) else Nx H3) := by
  refine lc_tup (K := K) (a := a) (xs := xs) (fun i H => Ext H1 H ∧ J H ∧ ∃ ys, H D = some (.lst ys) ∧ EachIs (R H) ys (gs.take i))
    ⟨(Ext.refl H1).updD hD, j0, [], upd_same, .nil⟩ (fun i H _ ⟨e, _⟩ => e.sqt hx) ?_ ?_
  · rintro i x H hi ⟨e, hj, ys, eD, hr⟩
    obtain ⟨g, hgi, hin⟩ := hg.at hi
    have hlen := (List.getElem?_eq_some_iff.mp hi).1
    have hly := hr.length
    rw [List.length_take] at hly
    refine ⟨hw x, ?_⟩
    refine turn x g H (List.mem_of_getElem? hgi) (hin.ext e) e hj _ fun y H' e' hj' r => ?_
    have eD' := e' _ _ eD (by intro _ z; cases z)
    refine ⟨ys, eD', by rw [sizeLine_eq]; omega, (e.trans e').updD hD, hJ _ _ _ hj' eD', ys ++ [y], upd_same, ?_⟩
    rw [take_snoc hgi]
    have off : TupK H' (upd H' D (.lst (ys ++ [y]))) := (TupK.of (Ext.refl H')).off eD'
    exact each_app (mono _ _ _ _ r off) (hr.mono fun y g q => mono _ _ _ _ q ((TupK.of e').trans off))
  · rintro H ⟨e, hj, ys, eD, hr⟩
    rw [hg.len, List.take_length] at hr
    exact fin H ys e hj eD hr
/-- [x for x in xs if test], asked whether it is empty -/
theorem lc_flt (f : G → Bool) (hD : H1 D = none) (hx : SqT K H1 a xs) (hg : InL K H1 xs gs) (hl : xs.length ≤ 100000)
    (hw : ∀ x, wipe ((wipe σ [j]).set j (some x)) [j] = wipe σ [j]) (hj : ∀ x, ((wipe σ [j]).set j (some x))[j]? = some (some x))
    (hJ : ∀ H ys ys', J H → H D = some (.lst ys) → J (upd H D (.lst ys'))) (j0 : J (upd H1 D (.lst [])))
    (turn : ∀ x g H, g ∈ gs → In K H x g → Ext H1 H → J H → ∀ Q : Bool → Hp → Prop, (∀ H', Ext H H' → J H' → Q (f g) H') → tt ((wipe σ [j]).set j (some x)) H Q)
    (fin : ∀ H ys, Ext H1 H → J H → H D = some (.lst ys) → ys.isEmpty = gs.all (fun g => !f g) → Qd H) :
    ∃ W : Nat → Nat → Hp → Prop, (∃ m, W 0 m (upd H1 D (.lst []))) ∧ ∀ i m H, W i m H →
      ((Itt K a).stop i H ∧ Qd H) ∨ ((Itt K a).go i H ∧ ∃ Nx : Hp → Prop, (∀ H', Nx H' → ∃ m', m' < m ∧ W (i + 1) m' H') ∧ ∀ x H', (Itt K a).yld i H x H' → gName j x (wipe σ [j]) H' fun σ2 H2 => wipe σ2 [j] = wipe σ [j] ∧ tt σ2 H2 fun b H3 =>
        if b = true then tVar j σ2 H3 fun y H4 => ∃ acc, H4 D = some (.lst acc) ∧ acc.length < sizeLine ∧ Nx (upd H4 D (.lst (acc ++ [y]))) else Nx H3) := by
  refine lc_tup (K := K) (a := a) (xs := xs) (fun i H => Ext H1 H ∧ J H ∧ ∃ ys, H D = some (.lst ys) ∧ ys.length ≤ i ∧ ys.isEmpty = (gs.take i).all (fun g => !f g))
    ⟨(Ext.refl H1).updD hD, j0, [], upd_same, Nat.le_refl _, rfl⟩ (fun i H _ ⟨e, _⟩ => e.sqt hx) ?_ ?_
  · rintro i x H hi ⟨e, hjj, ys, eD, hl2, hr⟩
    obtain ⟨g, hgi, hin⟩ := hg.at hi
    have hlen := (List.getElem?_eq_some_iff.mp hi).1
    refine ⟨hw x, ?_⟩
    refine turn x g H (List.mem_of_getElem? hgi) (hin.ext e) e hjj _ fun H' e' hj' => ?_
    have eD' := e' _ _ eD (by intro _ z; cases z)
    have ea : ∀ b, ((gs.take i ++ [g]).all (fun g => !f g) = b) ↔ (((gs.take i).all fun g => !f g) && !f g) = b := fun b => by
      rw [List.all_append]
      simp
    refine ite2 (fun hf => ?_) (fun hf => ?_)
    · refine ⟨x, hj x, ys, eD', by rw [sizeLine_eq]; omega, (e.trans e').updD hD, hJ _ _ _ hj' eD', ys ++ [x], upd_same, by rw [List.length_append]; exact Nat.succ_le_succ hl2, ?_⟩
      rw [take_snoc hgi, List.all_append]
      simp [hf]
    · refine ⟨e.trans e', hj', ys, eD', Nat.le_succ_of_le hl2, ?_⟩
      rw [take_snoc hgi, List.all_append, ← hr]
      simp [hf]
  · rintro H ⟨e, hjj, ys, eD, _, hr⟩
    rw [hg.len, List.take_length] at hr
    exact fin H ys e hjj eD hr
end
theorem each_val {β : Type} {f : β → V} : ∀ {ys : List V} {gs : List β}, EachIs (fun y g => y = f g) ys gs → ys = gs.map f
  | _, _, .nil => rfl
  | _, _, .cons h t => by rw [h, each_val t, List.map_cons]
theorem each_in {K : PySem.W.Frag} {H : Hp} {F : G → G} : ∀ {ys : List V} {gs : List G}, EachIs (fun y g => In K H y (F g)) ys gs → InL K H ys (gs.map F)
  | _, _, .nil => .nil
  | _, _, .cons h t => .cons h (each_in t)
/-- a tuple's own parts behind the first -/
theorem cut_1 (xs : List V) : cutV xs (some 1) none = xs.drop 1 := by
  cases xs with
  | nil => rfl
  | cons x r => exact cut_from' (n := 1) (by simp)
where cut_from' {xs : List V} {n : Nat} (h : n ≤ xs.length) : cutV xs (some (n : Int)) none = xs.drop n := by
        unfold cutV
        rw [HT.sIx_none, HT.sIx_nat, Nat.min_eq_left h]
        exact List.take_of_length_le (by rw [List.length_drop]; omega)
theorem whole_1 {xs : List V} (h : xs ≠ []) : ¬ (HT.sIx xs.length 0 (some 1) = 0 ∧ HT.sIx xs.length xs.length (none : Option Int) = xs.length) := by
  intro ⟨z, _⟩
  have e : HT.sIx xs.length 0 (some ((1 : Nat) : Int)) = min 1 xs.length := HT.sIx_nat _ _ _
  have : 0 < xs.length := List.length_pos_iff.mpr h
  rw [show (some (1 : Int)) = some ((1 : Nat) : Int) from rfl, e] at z
  omega
end K1
set_option Elab.async false
set_option linter.all false
set_option maxRecDepth 100000
set_option maxHeartbeats 1000000
namespace K1
open PySem PySem.Spec PyProof.Rows L2
open PySem.W (EachIs)
abbrev bigs : Str := Str.ofString "ABCDEFGHIJKLMNOPQRSTUVWXYZ"
structure Ct (mg : Str → Option Value) : Prop extends Cs mg where
  great : ∃ t, mg "GREAT" = some (.str bigs t)
  glet : ∃ t, mg "GAP_LETTERS" = some (.int 4 t)
  mpts : ∃ t, mg "MOST_POINTS" = some (.int 80 t)
  mdeep : ∃ t, mg "MOST_DEEP" = some (.int 12 t)
  mparts : ∃ t, mg "MOST_PARTS" = some (.int 8 t)
  sum : mg "sum" = none
  max : mg "max" = none
  min : mg "min" = none
  sorted : mg "sorted" = none
theorem iteT_ {c : Prop} [Decidable c] {p q : Prop} (h : c) (hp : p) : if c then p else q := by rw [if_pos h]; exact hp
theorem iteF_ {c : Prop} [Decidable c] {p q : Prop} (h : ¬ c) (hq : q) : if c then p else q := by rw [if_neg h]; exact hq
theorem isi_str {K : PySem.W.Frag} {H : Hp} {v : V} {g : G} (h : In K H v g) : ∃ d : PyData, TyX K H v (.type (tyOf d)) ∧ PySem.W.kitOne K (.type (tyOf d)) (.type "str") = some (isS g) := by
  obtain ⟨d, h1, h2, h3⟩ := h.kind
  exact ⟨d, h1, by rw [← h2]; exact kit_str d⟩
theorem isi_tup {K : PySem.W.Frag} {H : Hp} {v : V} {g : G} (h : In K H v g) : ∃ d : PyData, TyX K H v (.type (tyOf d)) ∧ PySem.W.kitOne K (.type (tyOf d)) (.type "tuple") = some (isT g) := by
  obtain ⟨d, h1, h2, h3⟩ := h.kind
  exact ⟨d, h1, by rw [← h3]; exact kit_tup d⟩
theorem empty_app (y : Str) : Str.empty ++ y = y := ext_l (by rw [app_l]; rfl)
theorem fit_line {n m : Nat} (h : n ≤ m) (hm : m ≤ 100000) : n ≤ sizeLine := by rw [sizeLine_eq]; omega
theorem same_J {H1 H : Hp} {D : Addr} (hD : H1 D = none) : ∀ (H : Hp) (ys ys' : List V), Same H1 H → H D = some (.lst ys) → Same H1 (upd H D (.lst ys')) := fun H ys ys' s e b o h => by
  rw [upd_ne (ne_of_none h hD)]
  exact s b o h
theorem vint_ne {a b : Int} (h : a ≠ b) : ¬ decide (V.int a = V.int b) = true := fun z => h (V.int.inj (of_decide_eq_true z))
theorem vint_eq {a b : Int} (h : a = b) : decide (V.int a = V.int b) = true := decide_eq_true (by rw [h])
/-- the promise of a def of one term -/
def sp1 (K : PySem.W.Frag) (n : Nat) (f : G → V) : Sp := fun vs H Q _ => ∃ (v : V) (g : G), vs = [v] ∧ In K H v g ∧ shp g = true ∧ fine g = true ∧ dp g ≤ n ∧ sz g ≤ 2000 ∧ ∀ H', Same H H' → Q (f g) H'
abbrev sText : Stmt := topS 24
abbrev nText : List Str := ["term", "inner", "part"]
section
variable {P : Program} {w : World} {K : PySem.W.Frag} {mg : Str → Option Value} {base : Heap}
theorem sp1_zero {sp : Sp} {ps : List Str} {k : Nat} {f : Addr} {fd : FuncData} (h : ∀ vs H Q E, ¬ sp vs H Q E) : FnOk P w K mg base C8.CX0 k f fd ps sp :=
  ⟨fun vs H Q E q => absurd q (h vs H Q E), fun A outer s H args us vs Q E hr he hb hv hs => absurd hs (h vs H Q E)⟩
theorem no_dp0 {K : PySem.W.Frag} {f : G → V} (vs : List V) (H : Hp) (Q : VK) (E : XK) : ¬ sp1 K 0 f vs H Q E := by
  rintro ⟨v, g, _, _, _, _, h, _⟩
  have := dp_pos g
  omega
theorem scText : FnScope nText ["term"] (defScope sText) := ⟨rfl, rfl, rfl, by decide +kernel, rfl, by decide +kernel, by decide +kernel⟩
theorem ok_text {f : Addr} {fd : FuncData} {n : Nat} (F : Fun K "text_of" "text_of" sText f fd) (IH : Df P w K mg base C8.CX0 "text_of" n ["term"] (sp1 K n fun g => .str (text g))) (T : Ct mg) :
    FnOk P w K mg base C8.CX0 (n + 1) f fd ["term"] (sp1 K (n + 1) fun g => .str (text g)) := by
  refine F.ok scText (fun vs H Q E h => ?_) (fun cdv A outer s H vs Q E hr h => ?_)
  · obtain ⟨v, g, rfl, _⟩ := h
    rfl
  · obtain ⟨v, g, rfl, hin, hs, hf, hd, hz, k⟩ := h
    refine ⟨_, pss_cons (ps_if (pt_val (pe_callB call_isi (by rfl) T.isi boot_isinstance (pa_cons (pv 0) (pa_cons (pe_bltn (v := .ty "str") (by rfl) T.str boot_str rfl) pa_nil)))) (pss_one (ps_ret (pv 0))) pss_nil)
      (pss_cons (ps_if (pt_cmpR op_eq (pe_callB call_len (by rfl) T.len PySem.boot_len (pa_cons (pv 0) pa_nil)) pe_int (nomark _)) (pss_one (ps_ret (pe_ix ix_tup (pv 0) pe_int (fun _ _ => rfl)))) pss_nil)
      (pss_cons (ps_set (i := 1) scText.nd rfl (Or.inl rfl) (pe_join pe_str (pe_lc (own := [("part", 2)]) (g := gName 2) (tt := tYes) rfl scText.nd (pi_tup (pe_slice sl_tup (pv 0) (po_some pe_int) po_none)) (blkOk_by (N := nText) (sc := defScope sText) (by decide +kernel)) (fun _ _ _ _ _ => pg_name (i := 2) scText.nd rfl (Or.inl rfl)) (fun _ _ _ _ _ => pts_nil)
        (fun _ _ _ _ _ => pe_df IH hr pass0 (pa_cons (pv 2) pa_nil) (Nat.le_refl _)))))
      (pss_one (ps_ret (pe_joined (.cons (pe_fmt (pe_ix ix_tup (pv 0) pe_int (fun _ _ => rfl))) (.cons pe_str (.cons (pe_fmt (pv 1)) (.cons pe_str .nil))))))))), ?_⟩
    obtain ⟨d, t1, t2⟩ := isi_str hin
    refine ⟨_, rfl, _, _, _, _, _, rfl, .ty "str", t1, t2, _, rfl, ?_⟩
    rcases shp_cases hs with ⟨x, rfl⟩ | ⟨y, ps, rfl, hp⟩
    · refine iteT ⟨_, rfl, ?_⟩
      rw [hin.str]
      have q1 : Q (.str (text (.s x))) H := k H (Same.refl H)
      rw [show text (.s x) = x by rw [text]] at q1
      exact q1
    · refine iteF ?_
      obtain ⟨a, xs, rfl, hx, hg⟩ := hin.tup
      have hlen := hg.len
      have hsl := sz_len (.s y :: ps)
      have hy := hd_len (fine_mem hf (p := .s y) List.mem_cons_self)
      have hx0 : xs[0]? = some (.str y) := by
        obtain ⟨v0, e0, h0⟩ := hg.get (i := 0) rfl
        rw [e0, h0.str]
      refine ⟨_, rfl, .ref a, xs.length, rfl, .inr ⟨xs, hx, rfl⟩, rfl, _, rfl, ?_⟩
      cases ps with
      | nil =>
        refine iteT_ (by rw [hlen]; exact vint_eq rfl) ⟨_, rfl, a, xs, 0, _, rfl, rfl, hx, atI_nat (j := 0) hx0, ?_⟩
        have q1 : Q (.str (text (.t [.s y]))) H := k H (Same.refl H)
        rw [text_one] at q1
        exact q1
      | cons p ps =>
        refine iteF_ (vint_ne (by rw [hlen]; simp only [List.length_cons]; omega)) ?_
        have hne : xs ≠ [] := fun z => by rw [z] at hlen; cases hlen
        refine ⟨⟨_, rfl⟩, _, rfl, _, rfl, a, xs, rfl, hx, whole_1 hne, fun q hq => ⟨q, rfl, ⟨_, SqT.of upd_same⟩, fun D hD => ?_⟩⟩
        have sq := Same.new (o := .tup (cutV xs (some 1) none)) (Same.refl H) hq
        have hgd : InL K (upd H q (.tup (cutV xs (some 1) none))) (cutV xs (some 1) none) (p :: ps) := by
          have z := (hg.drop 1).same sq
          rw [← cut_1] at z
          exact z
        refine lc_in (K := K) (gs := p :: ps) (J := fun H' => Same (upd H q (.tup (cutV xs (some 1) none))) H') (fun H y g => y = .str (text g)) hD (SqT.of upd_same) hgd ?_ (fun y g H H' h _ => h) (fun _ => rfl) (same_J (H := H) hD) (Same.new (Same.refl _) hD) ?_ ?_
        · rw [hgd.len]
          simp only [List.length_cons] at hsl ⊢
          omega
        · intro x g H' hgm hxin e hj Q' q'
          have hgm' : g ∈ .s y :: p :: ps := List.mem_cons_of_mem _ hgm
          exact ⟨x, rfl, x, g, rfl, hxin, hp g hgm, fine_mem hf hgm', dp_mem hd hgm', by have := sz_mem hgm'; omega, fun H'' s'' => q' _ _ (.of s'') (hj.trans s'') rfl⟩
        · intro H' ys e hj eD hr
          have hys := each_val (f := fun g => V.str (text g)) hr
          have hys2 : ys = ((p :: ps).map text).map V.str := by rw [hys, List.map_map]; rfl
          subst hys2
          have htl := text_len _ _ (Nat.le_refl _) hf
          have hjl := join_len (Str.ofString ",") ((p :: ps).map text)
          have e3 : (Str.ofString ",").length = 1 := by decide +kernel
          rw [e3, Nat.mul_one] at hjl
          have hsum : (((p :: ps).map text).map (·.length)).sum + ((p :: ps).map text).length ≤ 26000 := by
            rw [List.map_map, List.length_map, ← succ_sum]
            have hs : ((p :: ps).map fun q => (text q).length + 1).sum ≤ ((p :: ps).map fun q => 13 * sz q).sum := sum_map_le fun q hq => text_len _ q (Nat.le_refl _) (fine_mem hf (List.mem_cons_of_mem _ hq))
            have e5 : ((p :: ps).map fun q => 13 * sz q).sum = 13 * ((p :: ps).map sz).sum := by
              rw [← sum_mul, List.map_map]
              rfl
            rw [sz_t, List.map_cons, List.sum_cons] at hz
            have := sz_pos (.s y)
            omega
          have hxT := (sq.trans hj)
          have lp : (Str.ofString "(").length = 1 := by decide +kernel
          have rp : (Str.ofString ")").length = 1 := by decide +kernel
          have hyl : y.length ≤ 10 := hy
          refine ⟨_, D, (p :: ps).map text, rfl, rfl, .inl (SqL.of eD), by rw [e3, Nat.mul_one]; omega, ?_⟩
          refine ⟨_, rfl, a, xs, 0, _, rfl, rfl, sqt_same hxT hx, atI_nat (j := 0) hx0, .inl ⟨y, rfl, fit_line hyl (by decide), y, rfl, ?_, _, rfl, ?_, _, rfl, .inl ⟨_, rfl, ?_, _, rfl, ?_, _, rfl, ?_, ?_⟩⟩⟩
          · rw [empty_app]
            exact fit_line hyl (by decide)
          · rw [empty_app, app_len, lp]
            exact fit_line (m := 20) (by omega) (by decide)
          · exact fit_line (m := 26000) (by omega) (by decide)
          · rw [empty_app, app_len, app_len, lp]
            exact fit_line (m := 26100) (by omega) (by decide)
          · rw [empty_app, app_len, app_len, app_len, lp, rp]
            exact fit_line (m := 26100) (by omega) (by decide)
          · have q1 : Q (.str (text (.t (.s y :: p :: ps)))) H' := k H' hxT
            rw [text_more] at q1
            rw [empty_app]
            exact q1
end
end K1
set_option Elab.async false
set_option linter.all false
set_option maxRecDepth 100000
set_option maxHeartbeats 1000000
namespace K1
open PySem PySem.Spec PyProof.Rows L2
open PySem.W (EachIs)
theorem units10 {k : Nat} {A : Around} (r : Room k A) : A.units + 10 < cLine := by
  have := r.un
  omega
section
variable {P : Program} {w : World} {K : PySem.W.Frag} {mg : Str → Option Value} {base : Heap}
theorem ne_nil {H : Hp} {xs : List V} {g : G} {ps : List G} (hg : InL K H xs (g :: ps)) : xs ≠ [] := fun z => by
  have hlen := hg.len
  rw [z] at hlen
  cases hlen
/-- [f(part) for part in term[1:]], behind the slice -/
theorem rd2 {n : Nat} {f : G → V} {σ : L2.St} {H : Hp} {xs : List V} {y : Str} {ps : List G} {j : Nat} {q D : Addr} {Qd : Hp → Prop} (hg : InL K H xs (.s y :: ps)) (hp : ∀ p ∈ ps, shp p = true)
    (hf : fine (.t (.s y :: ps)) = true) (hd : dp (.t (.s y :: ps)) ≤ n + 1) (hz : sz (.t (.s y :: ps)) ≤ 2000) (hq : H q = none) (hD : upd H q (.tup (cutV xs (some 1) none)) D = none)
    (hw : ∀ x, wipe ((wipe σ [j]).set j (some x)) [j] = wipe σ [j]) (hj : ∀ x, ((wipe σ [j]).set j (some x))[j]? = some (some x))
    (fin : ∀ H', Same H H' → H' D = some (.lst (ps.map f)) → Qd H') :
    ∃ W : Nat → Nat → Hp → Prop, (∃ m, W 0 m (upd (upd H q (.tup (cutV xs (some 1) none))) D (.lst []))) ∧ ∀ i m H, W i m H →
      ((Itt K q).stop i H ∧ Qd H) ∨ ((Itt K q).go i H ∧ ∃ Nx : Hp → Prop, (∀ H', Nx H' → ∃ m', m' < m ∧ W (i + 1) m' H') ∧ ∀ x H', (Itt K q).yld i H x H' → gName j x (wipe σ [j]) H' fun σ2 H2 => wipe σ2 [j] = wipe σ [j] ∧ tYes σ2 H2 fun b H3 =>
        if b = true then tCall (sp1 K n f) [] C8.E0 (tCons (tVar j) tNil) σ2 H3 fun y H4 => ∃ acc, H4 D = some (.lst acc) ∧ acc.length < sizeLine ∧ Nx (upd H4 D (.lst (acc ++ [y]))) else Nx H3) := by
  have hlen := hg.len
  have hsl := sz_len (.s y :: ps)
  have sq := Same.new (o := .tup (cutV xs (some 1) none)) (Same.refl H) hq
  have hgd : InL K (upd H q (.tup (cutV xs (some 1) none))) (cutV xs (some 1) none) ps := by
    have z := (hg.drop 1).same sq
    rw [← cut_1] at z
    exact z
  refine lc_in (K := K) (gs := ps) (J := fun H' => Same (upd H q (.tup (cutV xs (some 1) none))) H') (fun H y g => y = f g) hD (SqT.of upd_same) hgd ?_ (fun y g H H' h _ => h) hw (same_J (H := H) hD) (Same.new (Same.refl _) hD) ?_ ?_
  · rw [hgd.len]
    simp only [List.length_cons] at hsl
    omega
  · intro x g H' hgm hxin e hjj Q' q'
    have hgm' : g ∈ .s y :: ps := List.mem_cons_of_mem _ hgm
    exact ⟨x, hj x, x, g, rfl, hxin, hp g hgm, fine_mem hf hgm', dp_mem hd hgm', by have := sz_mem hgm'; omega, fun H'' s'' => q' _ _ (.of s'') (hjj.trans s'') rfl⟩
  · intro H' ys e hjj eD hr
    rw [each_val hr] at eD
    exact fin H' (sq.trans hjj) eD
theorem int_sum : ∀ ns : List Nat, (ns.map fun n : Nat => (n : Int)).sum = ((ns.sum : Nat) : Int)
  | [] => rfl
  | n :: r => by
    rw [List.map_cons, List.sum_cons, List.sum_cons, int_sum r]
    omega
theorem ints_map (f : G → Nat) (ps : List G) : (ps.map fun g => V.int (f g)) = ((ps.map f).map fun n : Nat => (n : Int)).map V.int := by
  rw [List.map_map, List.map_map]
  rfl
abbrev sPts : Stmt := topS 25
abbrev sDeep : Stmt := topS 26
abbrev sWide : Stmt := topS 27
abbrev sBeyond : Stmt := topS 28
theorem scPts : FnScope ["term", "part"] ["term"] (defScope sPts) := ⟨rfl, rfl, rfl, by decide +kernel, rfl, by decide +kernel, by decide +kernel⟩
theorem ok_pts {f : Addr} {fd : FuncData} {n : Nat} (F : Fun K "points_of" "points_of" sPts f fd) (IH : Df P w K mg base C8.CX0 "points_of" n ["term"] (sp1 K n fun g => .int (points g))) (T : Ct mg) :
    FnOk P w K mg base C8.CX0 (n + 1) f fd ["term"] (sp1 K (n + 1) fun g => .int (points g)) := by
  refine F.ok scPts (fun vs H Q E h => ?_) (fun cdv A outer s H vs Q E hr h => ?_)
  · obtain ⟨v, g, rfl, _⟩ := h
    rfl
  · obtain ⟨v, g, rfl, hin, hs, hf, hd, hz, k⟩ := h
    refine ⟨_, pss_cons (ps_if (pt_val (pe_callB call_isi (by rfl) T.isi boot_isinstance (pa_cons (pv 0) (pa_cons (pe_bltn (v := .ty "str") (by rfl) T.str boot_str rfl) pa_nil)))) (pss_one (ps_ret pe_int)) pss_nil)
      (pss_one (ps_ret (pe_op op_add pe_int (pe_callB (cr_sum rfl) (by rfl) T.sum (by decide +kernel) (pa_cons (pe_lc (own := [("part", 1)]) (g := gName 1) (tt := tYes) rfl scPts.nd (pi_tup (pe_slice sl_tup (pv 0) (po_some pe_int) po_none)) (blkOk_by (N := ["term", "part"]) (sc := defScope sPts) (by decide +kernel)) (fun _ _ _ _ _ => pg_name (i := 1) scPts.nd rfl (Or.inl rfl)) (fun _ _ _ _ _ => pts_nil)
        (fun _ _ _ _ _ => pe_df IH hr pass0 (pa_cons (pv 1) pa_nil) (Nat.le_refl _))) pa_nil))))), ?_⟩
    obtain ⟨d, t1, t2⟩ := isi_str hin
    refine ⟨_, rfl, _, _, _, _, _, rfl, .ty "str", t1, t2, _, rfl, ?_⟩
    have k' : ∀ H', Same H H' → Q (.int (points g)) H' := k
    rcases shp_cases hs with ⟨x, rfl⟩ | ⟨y, ps, rfl, hp⟩
    · refine iteT ?_
      have q1 := k' H (Same.refl H)
      rw [show points (.s x) = 1 by simp [points]] at q1
      exact q1
    · refine iteF ?_
      obtain ⟨a, xs, rfl, hx, hg⟩ := hin.tup
      refine ⟨_, rfl, _, rfl, a, xs, rfl, hx, whole_1 (ne_nil hg), fun q hq => ⟨q, rfl, ⟨_, SqT.of upd_same⟩, fun D hD => rd2 hg hp hf hd hz hq hD (fun _ => rfl) (fun _ => rfl) (fun H' sm eD => ⟨D, (ps.map points).map fun n : Nat => (n : Int), rfl, SqL.of (by rw [eD, ints_map]), _, _, rfl, rfl, ?_⟩)⟩⟩
      have q1 := k' H' sm
      rw [points_t] at q1
      rw [int_sum]
      exact q1
theorem scDeep : FnScope ["term", "part"] ["term"] (defScope sDeep) := ⟨rfl, rfl, rfl, by decide +kernel, rfl, by decide +kernel, by decide +kernel⟩
theorem maxl_of {ns : List Nat} {m : Int} (hm : m ∈ ns.map fun n : Nat => (n : Int)) (h : ∀ y ∈ ns.map fun n : Nat => (n : Int), y ≤ m) : m = ((maxl ns : Nat) : Int) := by
  obtain ⟨k, hk, rfl⟩ := List.mem_map.mp hm
  have h1 := le_maxl hk
  have h2 : maxl ns ≤ k := maxl_le.mpr fun n hn => by
    have := h n (List.mem_map.mpr ⟨n, hn, rfl⟩)
    omega
  have : k = maxl ns := by omega
  rw [this]
theorem ok_deep {f : Addr} {fd : FuncData} {n : Nat} (F : Fun K "deep_of" "deep_of" sDeep f fd) (IH : Df P w K mg base C8.CX0 "deep_of" n ["term"] (sp1 K n fun g => .int (deep g))) (T : Ct mg) :
    FnOk P w K mg base C8.CX0 (n + 1) f fd ["term"] (sp1 K (n + 1) fun g => .int (deep g)) := by
  refine F.ok scDeep (fun vs H Q E h => ?_) (fun cdv A outer s H vs Q E hr h => ?_)
  · obtain ⟨v, g, rfl, _⟩ := h
    rfl
  · obtain ⟨v, g, rfl, hin, hs, hf, hd, hz, k⟩ := h
    refine ⟨_, pss_cons (ps_if (pt_val (pe_callB call_isi (by rfl) T.isi boot_isinstance (pa_cons (pv 0) (pa_cons (pe_bltn (v := .ty "str") (by rfl) T.str boot_str rfl) pa_nil)))) (pss_one (ps_ret pe_int)) pss_nil)
      (pss_one (ps_ret (pe_op op_add pe_int (pe_callBK (SrtF.cr_maxDf rfl (units10 hr)) (by rfl) T.max (by decide +kernel) (pa_cons (pe_lc (own := [("part", 1)]) (g := gName 1) (tt := tYes) rfl scDeep.nd (pi_tup (pe_slice sl_tup (pv 0) (po_some pe_int) po_none)) (blkOk_by (N := ["term", "part"]) (sc := defScope sDeep) (by decide +kernel)) (fun _ _ _ _ _ => pg_name (i := 1) scDeep.nd rfl (Or.inl rfl)) (fun _ _ _ _ _ => pts_nil)
        (fun _ _ _ _ _ => pe_df IH hr pass0 (pa_cons (pv 1) pa_nil) (Nat.le_refl _))) pa_nil) (pk_cons pe_int pk_nil))))), ?_⟩
    obtain ⟨d, t1, t2⟩ := isi_str hin
    refine ⟨_, rfl, _, _, _, _, _, rfl, .ty "str", t1, t2, _, rfl, ?_⟩
    have k' : ∀ H', Same H H' → Q (.int (deep g)) H' := k
    rcases shp_cases hs with ⟨x, rfl⟩ | ⟨y, ps, rfl, hp⟩
    · refine iteT ?_
      have q1 := k' H (Same.refl H)
      rw [show deep (.s x) = 1 by simp [deep]] at q1
      exact q1
    · refine iteF ?_
      obtain ⟨a, xs, rfl, hx, hg⟩ := hin.tup
      refine ⟨_, rfl, _, rfl, a, xs, rfl, hx, whole_1 (ne_nil hg), fun q hq => ⟨q, rfl, ⟨_, SqT.of upd_same⟩, fun D hD => rd2 hg hp hf hd hz hq hD (fun _ => rfl) (fun _ => rfl) (fun H' sm eD => ⟨D, (ps.map deep).map fun n : Nat => (n : Int), 0, rfl, rfl, SqL.of (by rw [eD, ints_map]), fun e0 => ⟨_, _, rfl, rfl, ?_⟩, fun m hm hmx => ⟨_, _, rfl, rfl, ?_⟩⟩)⟩⟩
      · have q1 := k' H' sm
        have e1 : ps = [] := by simpa using e0
        subst e1
        rw [deep_t] at q1
        exact q1
      · have q1 := k' H' sm
        rw [deep_t] at q1
        rw [maxl_of hm hmx]
        exact q1
theorem scWide : FnScope ["term", "part"] ["term"] (defScope sWide) := ⟨rfl, rfl, rfl, by decide +kernel, rfl, by decide +kernel, by decide +kernel⟩
theorem ok_wide {f : Addr} {fd : FuncData} {n : Nat} (F : Fun K "widest_of" "widest_of" sWide f fd) (IH : Df P w K mg base C8.CX0 "widest_of" n ["term"] (sp1 K n fun g => .int (wide g))) (T : Ct mg) :
    FnOk P w K mg base C8.CX0 (n + 1) f fd ["term"] (sp1 K (n + 1) fun g => .int (wide g)) := by
  refine F.ok scWide (fun vs H Q E h => ?_) (fun cdv A outer s H vs Q E hr h => ?_)
  · obtain ⟨v, g, rfl, _⟩ := h
    rfl
  · obtain ⟨v, g, rfl, hin, hs, hf, hd, hz, k⟩ := h
    refine ⟨_, pss_cons (ps_if (pt_val (pe_callB call_isi (by rfl) T.isi boot_isinstance (pa_cons (pv 0) (pa_cons (pe_bltn (v := .ty "str") (by rfl) T.str boot_str rfl) pa_nil)))) (pss_one (ps_ret pe_int)) pss_nil)
      (pss_one (ps_ret (pe_callB (cr_max rfl) (by rfl) T.max (by decide +kernel) (pa_cons (pe_op op_cat (pe_lst (pa_cons (pe_op op_sub (pe_callB call_len (by rfl) T.len PySem.boot_len (pa_cons (pv 0) pa_nil)) pe_int) pa_nil)) (pe_lc (own := [("part", 1)]) (g := gName 1) (tt := tYes) rfl scWide.nd (pi_tup (pe_slice sl_tup (pv 0) (po_some pe_int) po_none)) (blkOk_by (N := ["term", "part"]) (sc := defScope sWide) (by decide +kernel)) (fun _ _ _ _ _ => pg_name (i := 1) scWide.nd rfl (Or.inl rfl)) (fun _ _ _ _ _ => pts_nil)
        (fun _ _ _ _ _ => pe_df IH hr pass0 (pa_cons (pv 1) pa_nil) (Nat.le_refl _)))) pa_nil)))), ?_⟩
    obtain ⟨d, t1, t2⟩ := isi_str hin
    refine ⟨_, rfl, _, _, _, _, _, rfl, .ty "str", t1, t2, _, rfl, ?_⟩
    have k' : ∀ H', Same H H' → Q (.int (wide g)) H' := k
    rcases shp_cases hs with ⟨x, rfl⟩ | ⟨y, ps, rfl, hp⟩
    · refine iteT ?_
      have q1 := k' H (Same.refl H)
      rw [show wide (.s x) = 0 by simp [wide]] at q1
      exact q1
    · refine iteF ?_
      obtain ⟨a, xs, rfl, hx, hg⟩ := hin.tup
      have hlen := hg.len
      have hsl := sz_len (.s y :: ps)
      refine ⟨_, rfl, .ref a, xs.length, rfl, .inr ⟨xs, hx, rfl⟩, _, _, rfl, rfl, (by show 1 ≤ sizeLine; decide), fun l hl => ?_⟩
      have s1 := Same.new (o := .lst [.int ((xs.length : Int) - 1)]) (Same.refl H) hl
      refine ⟨_, rfl, _, rfl, a, xs, rfl, sqt_same s1 hx, whole_1 (ne_nil hg), fun q hq => ⟨q, rfl, ⟨_, SqT.of upd_same⟩, fun D hD => rd2 (hg.same s1) hp hf hd hz hq hD (fun _ => rfl) (fun _ => rfl) (fun H' sm eD => ⟨l, D, _, _, rfl, rfl, sm _ _ upd_same, eD, ?_, fun p hp => ⟨p, ((ps.length :: ps.map wide).map fun n : Nat => (n : Int)), rfl, SqL.of ?_, ?_, fun m hm hmx => ?_⟩⟩)⟩⟩
      · rw [List.length_map, sizeLine_eq]
        simp only [List.length_cons, List.length_nil] at hsl ⊢
        omega
      · rw [upd_same, hlen, ints_map wide ps, List.length_cons, List.map_cons, List.map_cons]
        congr 2
        simp
      · simp
      · rw [maxl_of hm hmx]
        have e : maxl (ps.length :: ps.map wide) = wide (.t (.s y :: ps)) := (wide_t _ _).symm
        rw [e]
        exact k' _ (Same.new (s1.trans sm) hp)
theorem scBeyond : FnScope ["term"] ["term"] (defScope sBeyond) := ⟨rfl, rfl, rfl, by decide +kernel, rfl, by decide +kernel, by decide +kernel⟩
def beyond (g : G) : Bool := decide (80 < points g) || (decide (12 < deep g) || decide (8 < wide g))
theorem ok_beyond {f : Addr} {fd : FuncData} {n : Nat} (F : Fun K "is_beyond" "is_beyond" sBeyond f fd) (DP : Df P w K mg base C8.CX0 "points_of" n ["term"] (sp1 K n fun g => .int (points g))) (DD : Df P w K mg base C8.CX0 "deep_of" n ["term"] (sp1 K n fun g => .int (deep g)))
    (DW : Df P w K mg base C8.CX0 "widest_of" n ["term"] (sp1 K n fun g => .int (wide g))) (T : Ct mg) : FnOk P w K mg base C8.CX0 (n + 1) f fd ["term"] (sp1 K n fun g => .bl (beyond g)) := by
  refine F.ok scBeyond (fun vs H Q E h => ?_) (fun cdv A outer s H vs Q E hr h => ?_)
  · obtain ⟨v, g, rfl, _⟩ := h
    rfl
  · obtain ⟨v, g, rfl, hin, hs, hf, hd, hz, k⟩ := h
    obtain ⟨_, hmp⟩ := T.mpts
    obtain ⟨_, hmd⟩ := T.mdeep
    obtain ⟨_, hmr⟩ := T.mparts
    refine ⟨_, pss_one (ps_ret (pe_or (pe_cmpR op_gt (pe_df DP hr pass0 (pa_cons (pv 0) pa_nil) (Nat.le_refl _)) (pe_glob (v := .int 80) (by rfl) hmp ⟨_, rfl⟩) (nomark _))
      (pe_or (pe_cmpR op_gt (pe_df DD hr pass0 (pa_cons (pv 0) pa_nil) (Nat.le_refl _)) (pe_glob (v := .int 12) (by rfl) hmd ⟨_, rfl⟩) (nomark _))
      (pe_one (pe_cmpR op_gt (pe_df DW hr pass0 (pa_cons (pv 0) pa_nil) (Nat.le_refl _)) (pe_glob (v := .int 8) (by rfl) hmr ⟨_, rfl⟩) (nomark _)))))), ?_⟩
    have hq : ∀ b H', b = beyond g → Same H H' → Q (.bl b) H' := fun b H' e sm => by
      rw [e]
      exact k H' sm
    refine ⟨_, rfl, v, g, rfl, hin, hs, hf, hd, hz, fun H1 s1 => ⟨_, _, rfl, rfl, _, rfl, ?_⟩⟩
    refine ite2 (fun h1 => hq _ _ ?_ s1) (fun h1 => ?_)
    · have h1' : (80 : Int) < (points g : Int) := by simpa using h1
      unfold beyond
      rw [decide_eq_true (show 80 < points g by omega)]
      rfl
    · have h1' : ¬ (80 : Int) < (points g : Int) := by simpa using h1
      refine ⟨_, rfl, v, g, rfl, hin.same s1, hs, hf, hd, hz, fun H2 s2 => ⟨_, _, rfl, rfl, _, rfl, ?_⟩⟩
      refine ite2 (fun h2 => hq _ _ ?_ (s1.trans s2)) (fun h2 => ?_)
      · have h2' : (12 : Int) < (deep g : Int) := by simpa using h2
        unfold beyond
        rw [decide_eq_true (show 12 < deep g by omega), Bool.true_or, Bool.or_true]
      · have h2' : ¬ (12 : Int) < (deep g : Int) := by simpa using h2
        refine ⟨_, rfl, v, g, rfl, (hin.same s1).same s2, hs, hf, hd, hz, fun H3 s3 => ⟨_, _, rfl, rfl, hq _ _ ?_ ((s1.trans s2).trans s3)⟩⟩
        unfold beyond
        rw [decide_eq_false (show ¬ 80 < points g by omega), decide_eq_false (show ¬ 12 < deep g by omega), Bool.false_or, Bool.false_or]
        by_cases h3 : 8 < wide g
        · rw [decide_eq_true h3, decide_eq_true (by omega)]
        · rw [decide_eq_false h3, decide_eq_false (by omega)]
end
end K1
set_option Elab.async false
set_option linter.all false
set_option maxRecDepth 100000
set_option maxHeartbeats 1000000
namespace K1
open PySem PySem.Spec PyProof.Rows L2
open PySem.W (EachIs)
/-! ### signs as lines: a name, a kind, how many parts -/
abbrev Ln := Str × Str × Nat
def rowD (l : Ln) : PyData := .tuple [.str l.1, .str l.2.1, .int l.2.2]
def find : List Ln → Str → Option Ln
  | [], _ => none
  | l :: L, x => if l.1 = x then some l else find L x
abbrev kinds4 : List Str := ["plain", "pair", "row", "heap"]
structure LOk (L : List Ln) : Prop where
  kd : ∀ l ∈ L, l.2.1 ∈ kinds4
  pr : ∀ l ∈ L, l.2.1 = "pair" → l.2.2 = 2
  nm : ∀ l ∈ L, nameB l.1 = true
  len : L.length ≤ 24
  sm : ∀ l ∈ L, l.2.2 ≤ 4
theorem find_mem : ∀ {L : List Ln} {x : Str} {l : Ln}, find L x = some l → l ∈ L ∧ l.1 = x
  | [], _, _, h => by cases h
  | m :: L, x, l, h => by
    unfold find at h
    by_cases e : m.1 = x
    · rw [if_pos e] at h
      cases h
      exact ⟨List.mem_cons_self, e⟩
    · rw [if_neg e] at h
      obtain ⟨h1, h2⟩ := find_mem h
      exact ⟨List.mem_cons_of_mem _ h1, h2⟩
theorem find_none : ∀ {L : List Ln} {x : Str}, find L x = none ↔ x ∉ L.map (·.1)
  | [], x => by simp [find]
  | m :: L, x => by
    unfold find
    by_cases e : m.1 = x
    · rw [if_pos e]
      simp [e]
    · rw [if_neg e, find_none]
      simp [Ne.symm e]
/-- is it one of these two kinds -/
def kin (a b k : Str) : Bool := [PyData.str a, PyData.str b].any fun z => PyData.eqv z (.str k)
def rowish (k : Str) : Bool := kin "row" "heap" k
def loose (k : Str) : Bool := kin "pair" "heap" k
def plainish (k : Str) : Bool := kin "plain" "pair" k
theorem kinds_ok : ∀ k ∈ kinds4, SeqAt.shaped (.str k) = true ∧ (plainish k = !rowish k) ∧ k.length ≤ 5 ∧ PyData.strOk k = true := by decide +kernel
def hasParts (L : List Ln) (h : G) (n : Nat) : Bool := match h with
  | .s x => match find L x with
    | none => false
    | some l => if rowish l.2.1 then decide (2 ≤ n ∧ n ≤ 8) else decide (n = l.2.2)
  | _ => false
/-- signs of these lines stand at p -/
def SgL (K : PySem.W.Frag) (C : Addr) (H : Hp) (p : Addr) (L : List Ln) : Prop := ∃ rt td xs, SgAt K C H p rt td xs (L.map (·.1)) ∧ DpAll K H xs (L.map rowD)
theorem dpr_ext {K : PySem.W.Frag} {H H' : Hp} (s : Ext H H') : ∀ {xs : List V} (L : List Ln), DpAll K H xs (L.map rowD) → DpAll K H' xs (L.map rowD)
  | _, [], .nil => .nil
  | _, l :: L, .cons h t => by
    refine .cons ?_ (dpr_ext s L t)
    cases h with
    | tup ht ha =>
      obtain ⟨a1, r, rfl, h1, t1⟩ := one_more ha
      obtain ⟨a2, r, rfl, h2, t2⟩ := one_more t1
      obtain ⟨a3, r, rfl, h3, t3⟩ := one_more t2
      cases no_more t3
      cases h1
      cases h2
      cases h3
      exact .tup (s.sqt ht) (.cons (.str _) (.cons (.str _) (.cons (.int _) .nil)))
theorem SgL.ext {K : PySem.W.Frag} {C : Addr} {H H' : Hp} {p : Addr} {L : List Ln} (s : Ext H H') (h : SgL K C H p L) : SgL K C H' p L := by
  obtain ⟨rt, td, xs, ⟨⟨dx, h1⟩, h2, h3, h4, h5⟩, h6⟩ := h
  exact ⟨rt, td, xs, ⟨⟨dx, s _ _ h1 (by intro _ z; cases z)⟩, s.sqt h2, s _ _ h3 (by intro _ z; cases z), h4, h5⟩, dpr_ext s L h6⟩
theorem SgL.same {K : PySem.W.Frag} {C : Addr} {H H' : Hp} {p : Addr} {L : List Ln} (s : Same H H') (h : SgL K C H p L) : SgL K C H' p L := h.ext (.of s)
theorem val_find {K : PySem.W.Frag} {H : Hp} {x : Str} : ∀ {L : List Ln} {xs : List V} {l : Ln}, DpAll K H xs (L.map rowD) → find L x = some l →
    ∃ b, valV (kvsOf (L.map (·.1)) xs) (Sum.inr x : Key) = some (.ref b) ∧ SqT K H b [.str l.1, .str l.2.1, .int l.2.2]
  | [], _, _, _, h => by cases h
  | m :: L, _, l, .cons (v := v) (vs := vs) h t, hf => by
    obtain ⟨b, vk, vm, rfl, hb, hk, hm⟩ := row_of h
    cases hk
    cases hm
    unfold find at hf
    by_cases e : m.1 = x
    · rw [if_pos e] at hf
      cases hf
      refine ⟨b, ?_, hb⟩
      exact valV_pos (p := ((Sum.inr m.1 : Key), V.ref b)) (by rw [e])
    · rw [if_neg e] at hf
      obtain ⟨b', h1, h2⟩ := val_find t hf
      refine ⟨b', ?_, h2⟩
      rw [← h1]
      exact valV_neg (p := ((Sum.inr m.1 : Key), V.ref b)) (fun z => e (Sum.inr.inj z))
def hasG (ns : List Str) : G → Bool
  | .s x => decide (x ∈ ns)
  | _ => false
def spHasG (K : PySem.W.Frag) (C : Addr) : Sp := fun vs H Q _ => ∃ (p : Addr) (L : List Ln) (v : V) (g : G), vs = [.ref p, v] ∧ SgL K C H p L ∧ In K H v g ∧ Q (.bl (hasG (L.map (·.1)) g)) H
def spKindG (K : PySem.W.Frag) (C : Addr) : Sp := fun vs H Q _ => ∃ (p : Addr) (L : List Ln) (x : Str) (l : Ln), vs = [.ref p, .str x] ∧ SgL K C H p L ∧ find L x = some l ∧ Q (.str l.2.1) H
def spManyG (K : PySem.W.Frag) (C : Addr) : Sp := fun vs H Q _ => ∃ (p : Addr) (L : List Ln) (x : Str) (l : Ln), vs = [.ref p, .str x] ∧ SgL K C H p L ∧ find L x = some l ∧ Q (.int l.2.2) H
def gapB (x : Str) : Bool := decide (1 ≤ x.length ∧ x.length ≤ 4) && (decide (x.cps.toList.headD 0 ∈ bigs.cps.toList) && (x.cps.toList.drop 1).all isLow)
abbrev sGap : Stmt := topS 17
abbrev sHasParts : Stmt := topS 29
section
variable {P : Program} {w : World} {K : PySem.W.Frag} {mg : Str → Option Value} {base : Heap}
theorem ok_hasG {f C : Addr} {fd : FuncData} (F : Fun K "has" "Signs.has" sHas f fd) (T : Ct mg) (G : SgC K C) : FnOk P w K mg base C8.CX0 1 f fd ["self", "name"] (spHasG K C) := by
  refine F.ok scHas (fun vs H Q E h => ?_) (fun cdv A outer s H vs Q E hr h => ?_)
  · obtain ⟨p, L, v, g, rfl, _⟩ := h
    rfl
  · obtain ⟨p, L, v, g, rfl, ⟨rt, td, xs, ⟨⟨dx, hp⟩, hrt, htd, hl, _⟩, _⟩, hin, k⟩ := h
    have hu' := hu_of hr
    refine ⟨_, pss_one (ps_ret (pe_and (pe_callB call_isi (by rfl) T.isi boot_isinstance (pa_cons (pv 1) (pa_cons (pe_bltn (v := .ty "str") (by rfl) T.str boot_str rfl) pa_nil)))
      (pe_one (pe_cmp (pc_din hu' (pv 1) (pe_fld (pv 0) rfl)))))), ?_⟩
    obtain ⟨d, t1, t2⟩ := isi_str hin
    refine ⟨_, rfl, _, _, _, _, _, rfl, .ty "str", t1, t2, _, rfl, ?_⟩
    cases g with
    | s x =>
      obtain rfl := hin.str
      refine iteT ⟨_, rfl, _, rfl, p, C, dx, _, _, rfl, hp, G.cl, G.nT, sgF_table rt td, td, _, rfl, DGet.k (k := Sum.inr x) htd, ?_⟩
      rw [val_kvs x _ xs hl]
      exact k
    | _ => exact k
theorem ok_kindG {f C : Addr} {fd : FuncData} (F : Fun K "kind" "Signs.kind" sKind f fd) (MH : Mt P w K mg base C8.CX0 C "has" 1 ["self", "name"] (spHasG K C)) (G : SgC K C) : FnOk P w K mg base C8.CX0 2 f fd ["self", "name"] (spKindG K C) := by
  obtain ⟨fh, fdh, FH, mH, bH⟩ := MH.ex
  refine F.ok scKind (fun vs H Q E h => ?_) (fun cdv A outer s H vs Q E hr h => ?_)
  · obtain ⟨p, L, x, l, rfl, _⟩ := h
    rfl
  · obtain ⟨p, L, x, l, rfl, S, hf, k⟩ := h
    have hu' := hu_of hr
    refine ⟨_, pss_cons (ps_if (pt_not (pt_val (pe_meth (pv 0) G.cl mH FH (hr.mono (by decide)) bH .nil pass0 (pa_cons (pv 1) pa_nil)))) (pss_one ps_never) pss_nil)
      (pss_one (ps_ret (pe_ix ix_tup (pe_dget hu' (pe_fld (pv 0) rfl) (pv 1) (fun _ _ => rfl)) pe_int (fun _ _ => rfl)))), ?_⟩
    obtain ⟨rt, td, xs, ⟨⟨dx, hp⟩, hrt, htd, hl, _⟩, hd⟩ := id S
    obtain ⟨b, hv, hb⟩ := val_find hd hf
    have hin : hasG (L.map (·.1)) (.s x) = true := by
      obtain ⟨h1, h2⟩ := find_mem hf
      exact decide_eq_true (List.mem_map.mpr ⟨l, h1, h2⟩)
    refine ⟨_, rfl, p, dx, _, rfl, hp, sgF_no rt td (by decide +kernel) (by decide +kernel), _, rfl, p, L, .str x, .s x, rfl, S, .s x, _, rfl, ?_⟩
    rw [hin]
    refine iteF ?_
    refine ⟨_, rfl, p, C, dx, _, _, rfl, hp, G.cl, G.nT, sgF_table rt td, _, rfl, td, .ref b, rfl, ?_, b, _, 1, _, rfl, rfl, hb, atI_nat (j := 1) rfl, k⟩
    rw [← hv]
    exact DGet.k (k := Sum.inr x) htd
theorem ok_manyG {f C : Addr} {fd : FuncData} (F : Fun K "many" "Signs.many" sMany f fd) (MH : Mt P w K mg base C8.CX0 C "has" 1 ["self", "name"] (spHasG K C)) (G : SgC K C) : FnOk P w K mg base C8.CX0 2 f fd ["self", "name"] (spManyG K C) := by
  obtain ⟨fh, fdh, FH, mH, bH⟩ := MH.ex
  refine F.ok scMany (fun vs H Q E h => ?_) (fun cdv A outer s H vs Q E hr h => ?_)
  · obtain ⟨p, L, x, l, rfl, _⟩ := h
    rfl
  · obtain ⟨p, L, x, l, rfl, S, hf, k⟩ := h
    have hu' := hu_of hr
    refine ⟨_, pss_cons (ps_if (pt_not (pt_val (pe_meth (pv 0) G.cl mH FH (hr.mono (by decide)) bH .nil pass0 (pa_cons (pv 1) pa_nil)))) (pss_one ps_never) pss_nil)
      (pss_one (ps_ret (pe_ix ix_tup (pe_dget hu' (pe_fld (pv 0) rfl) (pv 1) (fun _ _ => rfl)) pe_int (fun _ _ => rfl)))), ?_⟩
    obtain ⟨rt, td, xs, ⟨⟨dx, hp⟩, hrt, htd, hl, _⟩, hd⟩ := id S
    obtain ⟨b, hv, hb⟩ := val_find hd hf
    have hin : hasG (L.map (·.1)) (.s x) = true := by
      obtain ⟨h1, h2⟩ := find_mem hf
      exact decide_eq_true (List.mem_map.mpr ⟨l, h1, h2⟩)
    refine ⟨_, rfl, p, dx, _, rfl, hp, sgF_no rt td (by decide +kernel) (by decide +kernel), _, rfl, p, L, .str x, .s x, rfl, S, .s x, _, rfl, ?_⟩
    rw [hin]
    refine iteF ?_
    refine ⟨_, rfl, p, C, dx, _, _, rfl, hp, G.cl, G.nT, sgF_table rt td, _, rfl, td, .ref b, rfl, ?_, b, _, 2, _, rfl, rfl, hb, atI_nat (j := 2) rfl, k⟩
    rw [← hv]
    exact DGet.k (k := Sum.inr x) htd
theorem scGap : FnScope ["thing"] ["thing"] (defScope sGap) := ⟨rfl, rfl, rfl, by decide +kernel, rfl, by decide +kernel, by decide +kernel⟩
def gapG : G → Bool
  | .s x => gapB x
  | _ => false
def spGap (K : PySem.W.Frag) : Sp := fun vs H Q _ => ∃ (v : V) (g : G), vs = [v] ∧ In K H v g ∧ fine g = true ∧ ∀ H', Same H H' → Q (.bl (gapG g)) H'
theorem cutS_1 (x : Str) : cutS x (some 1) none = ⟨(x.cps.toList.drop 1).toArray⟩ := by
  have e1 : HT.sIx x.length x.length (none : Option Int) = x.length := rfl
  have e2 : HT.sIx x.length 0 (some ((1 : Nat) : Int)) = min 1 x.length := HT.sIx_nat _ _ _
  show (⟨((x.cps.toList.drop (HT.sIx x.length 0 (some 1))).take (HT.sIx x.length x.length (none : Option Int) - HT.sIx x.length 0 (some 1))).toArray⟩ : Str) = _
  rw [show (some (1 : Int)) = some ((1 : Nat) : Int) from rfl, e1, e2]
  have hl := len_toList x
  congr 2
  by_cases h : 1 ≤ x.length
  · rw [Nat.min_eq_left h]
    exact List.take_of_length_le (by rw [List.length_drop]; omega)
  · have h0 : x.length = 0 := by omega
    have : x.cps.toList = [] := List.eq_nil_of_length_eq_zero (by omega)
    rw [this]
    simp
theorem ok_gap {f : Addr} {fd : FuncData} (F : Fun K "is_gap" "is_gap" sGap f fd) (DS : Df P w K mg base C8.CX0 "is_small" 1 ["text"] spSmall) (T : Ct mg) : FnOk P w K mg base C8.CX0 2 f fd ["thing"] (spGap K) := by
  refine F.ok scGap (fun vs H Q E h => ?_) (fun cdv A outer s H vs Q E hr h => ?_)
  · obtain ⟨v, g, rfl, _⟩ := h
    rfl
  · obtain ⟨v, g, rfl, hin, hf, k⟩ := h
    obtain ⟨_, hgl⟩ := T.glet
    obtain ⟨_, hgr⟩ := T.great
    refine ⟨_, pss_one (ps_ret (pe_and (pe_callB call_isi (by rfl) T.isi boot_isinstance (pa_cons (pv 0) (pa_cons (pe_bltn (v := .ty "str") (by rfl) T.str boot_str rfl) pa_nil)))
      (pe_and (pe_chain op_le op_le pe_int (pe_callB call_len (by rfl) T.len PySem.boot_len (pa_cons (pv 0) pa_nil)) (pe_glob (v := .int 4) (by rfl) hgl ⟨_, rfl⟩))
      (pe_and (pe_cmpR op_in_sign (pe_ix ix_str (pv 0) pe_int (fun _ _ => rfl)) (pe_glob (v := .str bigs) (by rfl) hgr ⟨_, rfl⟩) (by rfl))
      (pe_one (pe_df DS hr pass0 (pa_cons (pe_slice sl_str (pv 0) (po_some pe_int) po_none) pa_nil))))))), ?_⟩
    obtain ⟨d, t1, t2⟩ := isi_str hin
    refine ⟨_, rfl, _, _, _, _, _, rfl, .ty "str", t1, t2, _, rfl, ?_⟩
    cases g with
    | s x =>
      obtain rfl := hin.str
      have hl : x.length ≤ 10 := hd_len hf
      have hq : ∀ (b : Bool) (H' : Hp), b = gapB x → Same H H' → Q (.bl b) H' := fun b H' e sm => by
        rw [e]
        exact k H' sm
      refine iteT ?_
      refine ⟨_, rfl, .str x, x.length, rfl, ⟨by rw [sizeLine_eq]; omega, rfl⟩, _, _, rfl, rfl, _, rfl, ?_⟩
      refine ite2 (fun h1 => ?_) (fun h1 => ?_)
      · refine ⟨_, _, rfl, rfl, _, rfl, ?_⟩
        refine ite2 (fun h2 => ?_) (fun h2 => ?_)
        · rw [decide_eq_true_iff] at h1 h2
          have hb : decide (1 ≤ x.length ∧ x.length ≤ 4) = true := decide_eq_true (by omega)
          obtain ⟨c, r, hc⟩ : ∃ c r, x.cps.toList = c :: r := by
            cases e : x.cps.toList with
            | nil =>
              have := len_toList x
              rw [e] at this
              simp at this
              omega
            | cons c r => exact ⟨c, r, rfl⟩
          refine ⟨_, rfl, x, 0, c, rfl, rfl, by rw [sizeLine_eq]; omega, ?_, c, bigs, rfl, rfl, _, rfl, ?_⟩
          · rw [hc]
            exact atI_nat (j := 0) rfl
          refine ite2 (fun h3 => ?_) (fun h3 => ?_)
          · refine ⟨_, rfl, _, rfl, x, rfl, by rw [sizeLine_eq]; omega, ?_⟩
            rw [cutS_1, hc]
            refine ⟨_, rfl, ?_, fun H' sm => hq _ H' ?_ sm⟩
            · show (((c :: r).drop 1).toArray).size ≤ 100000
              have := len_toList x
              rw [hc] at this
              simp at this ⊢
              omega
            · unfold gapB
              rw [hb, hc]
              show _ = (true && (decide (c ∈ bigs.cps.toList) && _))
              rw [h3, Bool.true_and, Bool.true_and]
          · refine hq _ H ?_ (Same.refl H)
            unfold gapB
            rw [hb, hc]
            show _ = (true && (decide (c ∈ bigs.cps.toList) && _))
            rw [Bool.true_and]
            have h3' : decide (c ∈ bigs.cps.toList) = false := by simpa using h3
            rw [h3']
            rfl
        · refine hq _ H ?_ (Same.refl H)
          unfold gapB
          rw [decide_eq_true_iff] at h1 h2
          rw [show decide (1 ≤ x.length ∧ x.length ≤ 4) = false from decide_eq_false (by omega), Bool.false_and]
      · refine ⟨_, rfl, hq _ H ?_ (Same.refl H)⟩
        unfold gapB
        rw [decide_eq_true_iff] at h1
        rw [show decide (1 ≤ x.length ∧ x.length ≤ 4) = false from decide_eq_false (by omega), Bool.false_and]
    | _ => exact k H (Same.refl H)
theorem scHasParts : FnScope ["signs", "name", "count"] ["signs", "name", "count"] (defScope sHasParts) := ⟨rfl, rfl, rfl, by decide +kernel, rfl, by decide +kernel, by decide +kernel⟩
def spHP (K : PySem.W.Frag) (C : Addr) : Sp := fun vs H Q _ => ∃ (p : Addr) (L : List Ln) (v : V) (g : G) (n : Nat), vs = [.ref p, v, .int n] ∧ SgL K C H p L ∧ LOk L ∧ In K H v g ∧ ∀ H', Same H H' → Q (.bl (hasParts L g n)) H'
theorem ok_hasParts {f C : Addr} {fd : FuncData} (F : Fun K "has_parts" "has_parts" sHasParts f fd) (MH : Mt P w K mg base C8.CX0 C "has" 1 ["self", "name"] (spHasG K C)) (MK : Mt P w K mg base C8.CX0 C "kind" 2 ["self", "name"] (spKindG K C)) (MM : Mt P w K mg base C8.CX0 C "many" 2 ["self", "name"] (spManyG K C))
    (T : Ct mg) (G : SgC K C) : FnOk P w K mg base C8.CX0 3 f fd ["signs", "name", "count"] (spHP K C) := by
  obtain ⟨fh, fdh, FH, mH, bH⟩ := MH.ex
  obtain ⟨fk, fdk, FK, mK, bK⟩ := MK.ex
  obtain ⟨fm, fdm, FM, mM, bM⟩ := MM.ex
  refine F.ok scHasParts (fun vs H Q E h => ?_) (fun cdv A outer s H vs Q E hr h => ?_)
  · obtain ⟨p, L, v, g, n, rfl, _⟩ := h
    rfl
  · obtain ⟨p, L, v, g, n, rfl, S, ok, hin, k⟩ := h
    obtain ⟨_, hmp⟩ := T.mparts
    refine ⟨_, pss_cons (ps_if (pt_not (pt_val (pe_meth (pv 0) G.cl mH FH (hr.mono (by decide)) bH .nil pass0 (pa_cons (pv 1) pa_nil)))) (pss_one (ps_ret pe_bl)) pss_nil)
      (pss_cons (ps_if (pt_cmpR (op_inT (units65 hr)) (pe_meth (pv 0) G.cl mK FK (hr.mono (by decide)) bK .nil pass0 (pa_cons (pv 1) pa_nil)) (pe_tup (pa_cons pe_str (pa_cons pe_str pa_nil))) (by rfl))
        (pss_one (ps_ret (pe_chain op_le op_le pe_int (pv 2) (pe_glob (v := .int 8) (by rfl) hmp ⟨_, rfl⟩)))) pss_nil)
      (pss_one (ps_ret (pe_cmpR op_eq (pv 2) (pe_meth (pv 0) G.cl mM FM (hr.mono (by decide)) bM .nil pass0 (pa_cons (pv 1) pa_nil)) (nomark _))))), ?_⟩
    obtain ⟨rt, td, xs, ⟨⟨dx, hp⟩, _⟩, _⟩ := id S
    have hq : ∀ (b : Bool) (H' : Hp), b = hasParts L g n → Same H H' → Q (.bl b) H' := fun b H' e sm => by
      rw [e]
      exact k H' sm
    have nof : ∀ m : Str, ¬ m = "_table" → ¬ m = "_rows" → (sgF rt td).lookup m = none := fun m h1 h2 => sgF_no rt td h1 h2
    refine ⟨_, rfl, p, dx, _, rfl, hp, nof _ (by decide +kernel) (by decide +kernel), _, rfl, p, L, v, g, rfl, S, hin, _, rfl, ?_⟩
    cases g with
    | s x =>
      obtain rfl := hin.str
      cases hf : find L x with
      | none =>
        have h1 : hasG (L.map (·.1)) (.s x) = false := decide_eq_false (find_none.mp hf)
        rw [h1]
        refine iteT (hq _ _ ?_ (Same.refl H))
        simp [hasParts, hf]
      | some l =>
        obtain ⟨m1, m2⟩ := find_mem hf
        have h1 : hasG (L.map (·.1)) (.s x) = true := decide_eq_true (List.mem_map.mpr ⟨l, m1, m2⟩)
        rw [h1]
        refine iteF ?_
        obtain ⟨sk, _, _, _⟩ := kinds_ok _ (ok.kd l m1)
        refine ⟨_, rfl, p, dx, _, rfl, hp, nof _ (by decide +kernel) (by decide +kernel), _, rfl, p, L, x, l, rfl, S, hf, (by show 2 ≤ sizeLine; decide), fun q hq0 => ⟨.str l.2.1, [.str "row", .str "heap"], .str _, .tup (SqT.of upd_same) (.cons (.str _) (.cons (.str _) .nil)), sk, by decide +kernel, _, rfl, ?_⟩⟩
        have s1 := Same.new (o := .tup [.str "row", .str "heap"]) (Same.refl H) hq0
        have e0 : hasParts L (.s x) n = if rowish l.2.1 then decide (2 ≤ n ∧ n ≤ 8) else decide (n = l.2.2) := by
          simp only [hasParts, hf]
        refine ite2 (fun h2 => ?_) (fun h2 => ?_)
        · have h2' : rowish l.2.1 = true := h2
          rw [h2', if_pos rfl] at e0
          refine ⟨_, rfl, _, _, rfl, rfl, _, rfl, ?_⟩
          refine ite2 (fun h3 => ?_) (fun h3 => ?_)
          · refine ⟨_, _, rfl, rfl, hq _ _ ?_ s1⟩
            rw [e0]
            rw [decide_eq_true_iff] at h3
            by_cases h4 : n ≤ 8
            · rw [decide_eq_true (show (n : Int) ≤ 8 by omega), decide_eq_true (by omega)]
            · rw [decide_eq_false (show ¬ (n : Int) ≤ 8 by omega), decide_eq_false (by omega)]
          · refine hq _ _ ?_ s1
            rw [e0]
            rw [decide_eq_true_iff] at h3
            rw [decide_eq_false (by omega)]
        · have h2' : rowish l.2.1 = false := by
            have h0 : ¬ rowish l.2.1 = true := h2
            simpa using h0
          rw [h2', if_neg Bool.false_ne_true] at e0
          refine ⟨_, rfl, _, rfl, p, dx, _, rfl, s1 _ _ hp, nof _ (by decide +kernel) (by decide +kernel), _, rfl, p, L, x, l, rfl, S.same s1, hf, rfl, hq _ _ ?_ s1⟩
          rw [e0]
          by_cases h4 : n = l.2.2
          · rw [decide_eq_true h4, h4]
            exact decide_eq_true rfl
          · rw [decide_eq_false h4, decide_eq_false (fun z => h4 (by have := V.int.inj z; omega))]
    | _ => exact hq _ _ rfl (Same.refl H)
end
end K1
set_option Elab.async false
set_option linter.all false
set_option maxRecDepth 100000
set_option maxHeartbeats 1000000
namespace K1
open PySem PySem.Spec PyProof.Rows L2
open PySem.W (EachIs)
/-- built of these signs, by their numbers of parts -/
def stands (L : List Ln) : G → Bool
  | .s x => gapB x
  | .t (h :: ps) => hasParts L h ps.length && (ps.map (stands L)).all id
  | _ => false
theorem stands_t (L : List Ln) (h : G) (ps : List G) : stands L (.t (h :: ps)) = (hasParts L h ps.length && ps.all (stands L)) := by
  rw [stands, List.all_map]
  rfl
/-- what draft_points tells -/
def drp (L : List Ln) (g : G) (l r : Nat) : Nat := if stands L g = true ∧ points g ≤ r ∧ deep g ≤ l then points g else 0
theorem drp_zero {L : List Ln} {g : G} {l r : Nat} (h : ¬ (stands L g = true ∧ points g ≤ r ∧ deep g ≤ l)) : drp L g l r = 0 := if_neg h
theorem drp_no0 {L : List Ln} {g : G} {l r : Nat} (h : drp L g l r ≠ 0) : stands L g = true ∧ points g ≤ r ∧ deep g ≤ l := by
  by_cases q : stands L g = true ∧ points g ≤ r ∧ deep g ≤ l
  · exact q
  · exact absurd (drp_zero q) h
theorem drp_is {L : List Ln} {g : G} {l r : Nat} (h : stands L g = true ∧ points g ≤ r ∧ deep g ≤ l) : drp L g l r = points g := if_pos h
theorem sum_take {ns : List Nat} {i : Nat} {n : Nat} (h : ns[i]? = some n) : (ns.take i).sum + n ≤ ns.sum := by
  have e := take_snoc h
  have h2 : ns = ns.take (i + 1) ++ ns.drop (i + 1) := (List.take_append_drop _ _).symm
  have h3 : ns.sum = (ns.take (i + 1)).sum + (ns.drop (i + 1)).sum := by
    conv => lhs; rw [h2]
    rw [List.sum_append]
  rw [h3, e, List.sum_append]
  simp
abbrev sDp : Stmt := topS 30
abbrev nDp : List Str := ["signs", "thing", "levels", "room", "taken", "part", "more"]
def spDr (K : PySem.W.Frag) (C : Addr) (n : Nat) : Sp := fun vs H Q _ => ∃ (p : Addr) (L : List Ln) (v : V) (g : G) (l r : Nat), vs = [.ref p, v, .int l, .int r] ∧ SgL K C H p L ∧ LOk L ∧ In K H v g ∧ fine g = true ∧ sz g ≤ 2000 ∧ l ≤ n ∧ ∀ H', Same H H' → Q (.int (drp L g l r)) H'
section
variable {P : Program} {w : World} {K : PySem.W.Frag} {mg : Str → Option Value} {base : Heap}
theorem scDp : FnScope nDp ["signs", "thing", "levels", "room"] (defScope sDp) := ⟨rfl, rfl, rfl, by decide +kernel, rfl, by decide +kernel, by decide +kernel⟩
/-- one level: what is called, if anything, is called at the level below -/
theorem ok_dp {f C : Addr} {fd : FuncData} {n m : Nat} {spI : Sp} (F : Fun K "draft_points" "draft_points" sDp f fd) (IH : Df P w K mg base C8.CX0 "draft_points" m ["signs", "thing", "levels", "room"] spI)
    (hI : ∀ l, l + 1 ≤ n → ∀ vs H Q E, (∃ (p : Addr) (L : List Ln) (v : V) (g : G) (r : Nat), vs = [.ref p, v, .int l, .int r] ∧ SgL K C H p L ∧ LOk L ∧ In K H v g ∧ fine g = true ∧ sz g ≤ 2000 ∧ ∀ H', Same H H' → Q (.int (drp L g l r)) H') → spI vs H Q E)
    (DG : Df P w K mg base C8.CX0 "is_gap" 2 ["thing"] (spGap K)) (DH : Df P w K mg base C8.CX0 "has_parts" 3 ["signs", "name", "count"] (spHP K C)) (T : Ct mg) (hm : 3 ≤ m) :
    FnOk P w K mg base C8.CX0 (m + 1) f fd ["signs", "thing", "levels", "room"] (spDr K C n) := by
  refine F.ok scDp (fun vs H Q E h => ?_) (fun cdv A outer s H vs Q E hr h => ?_)
  · obtain ⟨p, L, v, g, l, r, rfl, _⟩ := h
    rfl
  · obtain ⟨p, L, v, g, l, r, rfl, S, ok, hin, hf, hz, hl, k⟩ := h
    have hr3 : Room 3 _ := hr.mono hm
    refine ⟨_, pss_cons (ps_if (PW.pt (pw_or (pt_cmpR op_eq (pv 2) pe_int (nomark _)) (pw_or1 (pt_cmpR op_eq (pv 3) pe_int (nomark _))))) (pss_one (ps_ret pe_int)) pss_nil)
      (pss_cons (ps_if (pt_val (pe_callB call_isi (by rfl) T.isi boot_isinstance (pa_cons (pv 1) (pa_cons (pe_bltn (v := .ty "str") (by rfl) T.str boot_str rfl) pa_nil)))) (pss_one (ps_ret (pe_ifExp (pt_val (pe_df DG hr3 pass0 (pa_cons (pv 1) pa_nil))) pe_int pe_int))) pss_nil)
      (pss_cons (ps_if (PW.pt (pw_or (pt_not (pt_val (pe_callB call_isi (by rfl) T.isi boot_isinstance (pa_cons (pv 1) (pa_cons (pe_bltn (v := .ty "tuple") (by rfl) T.tuple boot_tuple rfl) pa_nil))))) (pw_or (pt_cmpR op_eq (pe_callB call_len (by rfl) T.len PySem.boot_len (pa_cons (pv 1) pa_nil)) pe_int (nomark _))
          (pw_or1 (pt_not (pt_val (pe_df DH hr3 pass0 (pa_cons (pv 0) (pa_cons (pe_ix ix_tup (pv 1) pe_int (fun _ _ => rfl)) (pa_cons (pe_op op_sub (pe_callB call_len (by rfl) T.len PySem.boot_len (pa_cons (pv 1) pa_nil)) pe_int) pa_nil))))))))))
        (pss_one (ps_ret pe_int)) pss_nil)
      (pss_cons (ps_set (i := 4) scDp.nd rfl (Or.inl rfl) pe_int)
      (pss_cons (ps_for PassesOwn.never rfl (pi_tup (pe_slice sl_tup (pv 1) (po_some pe_int) po_none)) (pg_name (i := 5) scDp.nd rfl (Or.inl rfl))
        (pss_cons (ps_set (i := 6) scDp.nd rfl (Or.inl rfl) (pe_df IH hr pass0 (pa_cons (pv 0) (pa_cons (pv 5) (pa_cons (pe_op op_sub (pv 2) pe_int) (pa_cons (pe_op op_sub (pv 3) (pv 4)) pa_nil)))) (Nat.le_refl _)))
        (pss_cons (ps_if (pt_cmpR op_eq (pv 6) pe_int (nomark _)) (pss_one (ps_ret pe_int)) pss_nil)
        (pss_one (ps_aug (i := 4) scDp.nd rfl (.inl rfl) (pv 6) ip_add)))))
      (pss_one (ps_ret (pv 4))))))), ?_⟩
    have hq : ∀ (b : Nat) (H' : Hp), b = drp L g l r → Same H H' → Q (.int b) H' := fun b H' e sm => by
      rw [e]
      exact k H' sm
    have hq0 : ∀ (H' : Hp), drp L g l r = 0 → Same H H' → Q (.int 0) H' := fun H' e sm => hq 0 H' e.symm sm
    have p1 := points_pos g
    have d1 := deep_pos g
    refine ⟨_, rfl, rfl, _, rfl, ?_⟩
    refine ite2 (fun h1 => ?_) (fun h1 => ?_)
    · have h1' : (l : Int) = 0 := V.int.inj (of_decide_eq_true h1)
      exact hq0 H (drp_zero fun z => by omega) (Same.refl H)
    have hl0 : l ≠ 0 := fun z => h1 (by rw [z]; rfl)
    refine ⟨_, rfl, rfl, _, rfl, ?_⟩
    refine ite2 (fun h2 => ?_) (fun h2 => ?_)
    · have h2' : (r : Int) = 0 := V.int.inj (of_decide_eq_true h2)
      exact hq0 H (drp_zero fun z => by omega) (Same.refl H)
    have hr0 : r ≠ 0 := fun z => h2 (by rw [z]; rfl)
    obtain ⟨d, t1, t2⟩ := isi_str hin
    refine ⟨_, rfl, _, _, _, _, _, rfl, .ty "str", t1, t2, _, rfl, ?_⟩
    have noT : isT g = false → isS g = false → drp L g l r = 0 := fun a b => drp_zero fun z => by
      cases g with
      | o => simp [stands] at z
      | l => simp [stands] at z
      | s x => cases b
      | t ps => cases a
    cases hS : isS g with
    | true =>
      obtain ⟨x, rfl⟩ : ∃ x, g = .s x := by cases g <;> first | exact ⟨_, rfl⟩ | cases hS
      refine iteT ?_
      refine ⟨_, rfl, v, .s x, rfl, hin, hf, fun H1 s1 => ⟨_, rfl, ?_⟩⟩
      have es : stands L (.s x) = gapB x := by rw [stands]
      have ep : points (.s x) = 1 := by simp [points]
      have ed : deep (.s x) = 1 := by simp [deep]
      refine ite2 (fun h3 => hq 1 H1 ?_ s1) (fun h3 => hq 0 H1 ?_ s1)
      · rw [drp_is ⟨by rw [es]; exact h3, by omega, by omega⟩, ep]
      · exact (drp_zero fun z => h3 (by show gapB x = true; rw [← es]; exact z.1)).symm
    | false =>
      refine iteF ?_
      obtain ⟨d', t1', t2'⟩ := isi_tup hin
      refine ⟨_, rfl, _, _, _, _, _, rfl, .ty "tuple", t1', t2', _, rfl, ?_⟩
      cases hT : isT g with
      | false => exact iteT (hq0 H (noT hT hS) (Same.refl H))
      | true =>
        obtain ⟨gs, rfl⟩ : ∃ gs, g = .t gs := by cases g <;> first | exact ⟨_, rfl⟩ | cases hT
        refine iteF ?_
        obtain ⟨a, xs, rfl, hx, hg⟩ := hin.tup
        have hlen := hg.len
        have hsl := sz_len gs
        refine ⟨_, rfl, .ref a, xs.length, rfl, .inr ⟨xs, hx, rfl⟩, rfl, _, rfl, ?_⟩
        cases gs with
        | nil =>
          refine iteT_ (vint_eq (by rw [hlen]; rfl)) (hq0 H (drp_zero fun z => ?_) (Same.refl H))
          simp [stands] at z
        | cons h ps =>
          refine iteF_ (vint_ne (by rw [hlen]; simp only [List.length_cons]; omega)) ?_
          obtain ⟨v0, e0, h0⟩ := hg.get (i := 0) rfl
          have en : ((xs.length : Nat) : Int) - 1 = ((ps.length : Nat) : Int) := by
            rw [hlen]
            simp
          refine ⟨_, rfl, _, rfl, a, xs, 0, v0, rfl, rfl, hx, atI_nat (j := 0) e0, _, rfl, .ref a, xs.length, rfl, .inr ⟨xs, hx, rfl⟩, _, _, rfl, rfl, p, L, v0, h, ps.length, (by show [V.ref p, v0, V.int ((xs.length : Int) - 1)] = _; rw [en]), S, ok, h0, fun H1 s1 => ⟨_, rfl, ?_⟩⟩
          have est := stands_t L h ps
          refine ite2 (fun h4 => hq0 H1 (drp_zero fun z => ?_) s1) (fun h4 => ?_)
          · rw [est] at z
            have h4' : hasParts L h ps.length = false := by simpa using h4
            rw [h4'] at z
            cases z.1
          have h4' : hasParts L h ps.length = true := by
            have q0 : ¬ (!hasParts L h ps.length) = true := h4
            simpa using q0
          rw [h4', Bool.true_and] at est
          have hx1 := sqt_same s1 hx
          refine ⟨_, rfl, _, rfl, a, xs, rfl, hx1, whole_1 (ne_nil hg), fun q hq2 => ⟨q, rfl, ⟨_, SqT.of upd_same⟩, ?_⟩⟩
          have sq := Same.new (o := .tup (cutV xs (some 1) none)) s1 hq2
          have hgd : InL K (upd H1 q (.tup (cutV xs (some 1) none))) (cutV xs (some 1) none) ps := by
            have z := (hg.drop 1).same sq
            rw [← cut_1] at z
            exact z
          have ept := points_t h ps
          have edt := deep_t h ps
          refine for_tup (K := K) (a := q) (xs := cutV xs (some 1) none) (fun i σ H' => ∃ (tk : Nat) (v5 v6 : Option V), σ = [some (.ref p), some (.ref a), some (.int l), some (.int r), some (.int tk), v5, v6] ∧ Same (upd H1 q (.tup (cutV xs (some 1) none))) H' ∧ tk = 1 + ((ps.take i).map points).sum ∧ tk ≤ r ∧ (∀ g ∈ ps.take i, stands L g = true ∧ deep g ≤ l - 1))
            ⟨1, none, none, rfl, Same.refl _, by simp, by omega, fun g hg => by simp at hg⟩ (fun i σ H' _ ⟨_, _, _, _, sm, _⟩ => sqt_same sm (SqT.of upd_same)) ?_ ?_
          · rintro i x σ H' hi ⟨tk, v5, v6, rfl, sm, etk, htk, hall⟩
            obtain ⟨g, hgi, hgin⟩ := hgd.at hi
            have hgm := List.mem_of_getElem? hgi
            have hgm' : g ∈ h :: ps := List.mem_cons_of_mem _ hgm
            have hst := sum_take (ns := ps.map points) (i := i) (n := points g) (by rw [List.getElem?_map, hgi]; rfl)
            rw [← List.map_take] at hst
            have l1 : ((l : Int) - 1) = ((l - 1 : Nat) : Int) := by omega
            have r1 : ((r : Int) - tk) = ((r - tk : Nat) : Int) := by omega
            refine ⟨_, rfl, _, rfl, _, rfl, _, _, rfl, rfl, _, rfl, _, rfl, _, _, rfl, rfl, ?_⟩
            refine hI (l - 1) (by omega) _ _ _ _ ⟨p, L, x, g, r - tk, (by show [V.ref p, x, V.int ((l : Int) - 1), V.int ((r : Int) - tk)] = _; rw [l1, r1]), S.same (sq.trans sm), ok, hgin.same sm, fine_mem hf hgm', by have := sz_mem hgm'; omega, fun H2 s2 => ⟨_, rfl, rfl, _, rfl, ?_⟩⟩
            have sAll := (sq.trans sm).trans s2
            refine ite2 (fun h5 => hq0 H2 (drp_zero fun z => ?_) sAll) (fun h5 => ?_)
            · have h5' : drp L g (l - 1) (r - tk) = 0 := by
                have z := V.int.inj (of_decide_eq_true h5)
                omega
              obtain ⟨z1, z2, z3⟩ := z
              rw [est, List.all_eq_true] at z1
              have d2 := le_maxl (List.mem_map.mpr ⟨g, hgm, rfl⟩ : deep g ∈ ps.map deep)
              rw [drp_is ⟨z1 g hgm, by omega, by omega⟩] at h5'
              have := points_pos g
              omega
            · have h5' : drp L g (l - 1) (r - tk) ≠ 0 := fun z => h5 (by rw [z]; rfl)
              have z := drp_no0 h5'
              rw [drp_is z]
              refine ⟨_, rfl, _, rfl, _, _, rfl, rfl, tk + points g, _, _, rfl, sm.trans s2, ?_, by omega, ?_⟩
              · rw [take_snoc hgi, List.map_append, List.sum_append, etk]
                simp
                omega
              · intro g' hg'
                rw [take_snoc hgi] at hg'
                rcases List.mem_append.mp hg' with hg' | hg'
                · exact hall g' hg'
                · rw [List.mem_singleton.mp hg']
                  exact ⟨z.1, z.2.2⟩
          · rintro σ H' ⟨tk, v5, v6, rfl, sm, etk, htk, hall⟩
            rw [hgd.len, List.take_length] at etk hall
            refine ⟨_, rfl, hq tk H' ?_ (sq.trans sm)⟩
            rw [drp_is ⟨?_, by omega, ?_⟩, ept, etk]
            · rw [est, List.all_eq_true]
              exact fun g hg => (hall g hg).1
            · rw [edt]
              have := maxl_le (ns := ps.map deep) (m := l - 1)
              have h2 := this.mpr fun n hn => by
                obtain ⟨g, hg, rfl⟩ := List.mem_map.mp hn
                exact (hall g hg).2
              omega
end
end K1
set_option Elab.async false
set_option linter.all false
set_option maxRecDepth 100000
set_option maxHeartbeats 1000000
namespace K1
open PySem PySem.Spec PyProof.Rows L2
open PySem.W (EachIs)
/-! ### laying -/
def oneP (h : Str) : G → List G
  | .t (.s x :: rs) => if x = h then rs else [.t (.s x :: rs)]
  | q => [q]
def flat (h : Str) (qs : List G) : List G := qs.flatMap (oneP h)
def sortT (qs : List G) : List G := qs.mergeSort (SrtF.leK text)
def opn (k h : Str) (qs : List G) : List G := if rowish k then flat h qs else qs
def arr (k h : Str) (qs : List G) : List G := if loose k then sortT (opn k h qs) else opn k h qs
def kindOf (L : List Ln) (x : Str) : Str := match find L x with | some l => l.2.1 | none => Str.empty
def laid (L : List Ln) : G → G
  | .t (.s h :: ps) => .t (.s h :: arr (kindOf L h) h (ps.map (laid L)))
  | g => g
theorem laid_s (L : List Ln) (x : Str) : laid L (.s x) = .s x := by simp [laid]
theorem laid_t (L : List Ln) (h : Str) (ps : List G) : laid L (.t (.s h :: ps)) = .t (.s h :: arr (kindOf L h) h (ps.map (laid L))) := by rw [laid]
theorem sortT_perm (qs : List G) : (sortT qs).Perm qs := List.mergeSort_perm _ _
theorem arr_perm (k h : Str) (qs : List G) : (arr k h qs).Perm (opn k h qs) := by
  unfold arr
  split
  · exact sortT_perm _
  · exact List.Perm.refl _
theorem opn_mem {k h : Str} {qs : List G} {q : G} (hq : q ∈ opn k h qs) : q ∈ qs ∨ ∃ rs, .t (.s h :: rs) ∈ qs ∧ q ∈ rs := by
  unfold opn at hq
  split at hq
  · obtain ⟨p, hp, hqp⟩ := List.mem_flatMap.mp hq
    unfold oneP at hqp
    split at hqp
    · rename_i x rs
      by_cases e : x = h
      · rw [if_pos e] at hqp
        subst e
        exact .inr ⟨rs, hp, hqp⟩
      · rw [if_neg e] at hqp
        rw [List.mem_singleton.mp hqp]
        exact .inl hp
    · rw [List.mem_singleton.mp hqp]
      exact .inl hp
  · exact .inl hq
theorem arr_mem {k h : Str} {qs : List G} {q : G} (hq : q ∈ arr k h qs) : q ∈ qs ∨ ∃ rs, .t (.s h :: rs) ∈ qs ∧ q ∈ rs := opn_mem ((arr_perm k h qs).mem_iff.mp hq)
theorem opn_sum (f : G → Nat) (hf : ∀ x rs, (rs.map f).sum ≤ f (.t (.s x :: rs))) (k h : Str) (qs : List G) : ((opn k h qs).map f).sum ≤ (qs.map f).sum := by
  unfold opn
  split
  · unfold flat
    induction qs with
    | nil => exact Nat.le_refl _
    | cons q r ih =>
      rw [List.flatMap_cons, List.map_append, List.sum_append, List.map_cons, List.sum_cons]
      have h1 : ((oneP h q).map f).sum ≤ f q := by
        unfold oneP
        split
        · rename_i x rs
          split
          · exact hf x rs
          · simp
        · simp
      omega
  · exact Nat.le_refl _
theorem perm_sum {l m : List Nat} (p : l.Perm m) : l.sum = m.sum := by
  induction p with
  | nil => rfl
  | cons a _ ih => rw [List.sum_cons, List.sum_cons, ih]
  | swap a b l => simp only [List.sum_cons]; omega
  | trans _ _ h1 h2 => rw [h1, h2]
theorem arr_sum (f : G → Nat) (hf : ∀ x rs, (rs.map f).sum ≤ f (.t (.s x :: rs))) (k h : Str) (qs : List G) : ((arr k h qs).map f).sum ≤ (qs.map f).sum := by
  rw [perm_sum ((arr_perm k h qs).map f)]
  exact opn_sum f hf k h qs
theorem arr_max (f : G → Nat) (hf : ∀ x rs, ∀ r ∈ rs, f r ≤ f (.t (.s x :: rs))) (k h : Str) (qs : List G) : maxl ((arr k h qs).map f) ≤ maxl (qs.map f) := by
  refine maxl_le.mpr fun n hn => ?_
  obtain ⟨q, hq, rfl⟩ := List.mem_map.mp hn
  rcases arr_mem hq with h1 | ⟨rs, h1, h2⟩
  · exact le_maxl (List.mem_map.mpr ⟨q, h1, rfl⟩)
  · exact Nat.le_trans (hf h rs q h2) (le_maxl (List.mem_map.mpr ⟨_, h1, rfl⟩))
theorem maxl_map_le {f g : G → Nat} {l : List G} (h : ∀ a ∈ l, f a ≤ g a) : maxl (l.map f) ≤ maxl (l.map g) := maxl_le.mpr fun n hn => by
  obtain ⟨q, hq, rfl⟩ := List.mem_map.mp hn
  exact Nat.le_trans (h q hq) (le_maxl (List.mem_map.mpr ⟨q, hq, rfl⟩))
structure Less (g h : G) : Prop where
  shp : shp g = true
  fine : fine g = true
  dp : dp g ≤ dp h
  sz : sz g ≤ sz h
  pts : points g ≤ points h
  deep : deep g ≤ deep h
theorem shp_mk {x : Str} {ps : List G} (h : ∀ p ∈ ps, shp p = true) : shp (.t (.s x :: ps)) = true := by
  rw [shp_t, List.all_eq_true]
  exact h
theorem fine_mk {ps : List G} (h : ∀ p ∈ ps, fine p = true) : fine (.t ps) = true := by
  rw [fine_t, List.all_eq_true]
  exact h
theorem dp_s (x : Str) : dp (.s x) = 1 := by simp [dp]
theorem sz_s (x : Str) : sz (.s x) = 1 := by simp [sz]
theorem dp_ts (x : Str) (ps : List G) : dp (.t (.s x :: ps)) = 1 + max 1 (maxl (ps.map dp)) := by
  rw [dp_t, List.map_cons, dp_s]
  rfl
theorem sz_ts (x : Str) (ps : List G) : sz (.t (.s x :: ps)) = 2 + (ps.map sz).sum := by
  rw [sz_t, List.map_cons, sz_s, List.sum_cons]
  omega
/-- arranging parts makes nothing greater -/
theorem arr_less {k h : Str} {ps qs : List G} (hf : fine (.s h) = true) (hq : ∀ q ∈ qs, shp q = true ∧ fine q = true) (hd : maxl (qs.map dp) ≤ maxl (ps.map dp)) (hs : (qs.map sz).sum ≤ (ps.map sz).sum) (hp : (qs.map points).sum ≤ (ps.map points).sum) (hde : maxl (qs.map deep) ≤ maxl (ps.map deep)) :
    Less (.t (.s h :: arr k h qs)) (.t (.s h :: ps)) := by
  have key : ∀ q ∈ arr k h qs, shp q = true ∧ fine q = true := fun q hm => by
    rcases arr_mem hm with h1 | ⟨rs, h1, h2⟩
    · exact hq q h1
    · obtain ⟨a, b⟩ := hq _ h1
      rw [shp_t, List.all_eq_true] at a
      exact ⟨a q h2, fine_mem b (List.mem_cons_of_mem _ h2)⟩
  refine ⟨shp_mk fun p hp => (key p hp).1, fine_mk fun p hp => ?_, ?_, ?_, ?_, ?_⟩
  · rcases List.mem_cons.mp hp with rfl | hp
    · exact hf
    · exact (key p hp).2
  · rw [dp_ts, dp_ts]
    have := arr_max dp (fun x rs r hr => by
      rw [dp_ts]
      have := le_maxl (List.mem_map.mpr ⟨r, hr, rfl⟩ : dp r ∈ rs.map dp)
      omega) k h qs
    omega
  · rw [sz_ts, sz_ts]
    have := arr_sum sz (fun x rs => by rw [sz_ts]; omega) k h qs
    omega
  · rw [points_t, points_t]
    have := arr_sum points (fun x rs => by rw [points_t]; omega) k h qs
    omega
  · rw [deep_t, deep_t]
    have := arr_max deep (fun x rs r hr => by
      rw [deep_t]
      have := le_maxl (List.mem_map.mpr ⟨r, hr, rfl⟩ : deep r ∈ rs.map deep)
      omega) k h qs
    omega
theorem laid_less {L : List Ln} (n : Nat) : ∀ g, dp g ≤ n → shp g = true → fine g = true → Less (laid L g) g := by
  induction n with
  | zero =>
    intro g h
    have := dp_pos g
    omega
  | succ n ih =>
    intro g hd hs hf
    rcases shp_cases hs with ⟨x, rfl⟩ | ⟨x, ps, rfl, hp⟩
    · rw [laid_s]
      exact ⟨hs, hf, Nat.le_refl _, Nat.le_refl _, Nat.le_refl _, Nat.le_refl _⟩
    · rw [laid_t]
      have key : ∀ p ∈ ps, Less (laid L p) p := fun p hm => ih p (dp_mem hd (List.mem_cons_of_mem _ hm)) (hp p hm) (fine_mem hf (List.mem_cons_of_mem _ hm))
      refine arr_less (fine_mem hf List.mem_cons_self) (fun q hq => ?_) ?_ ?_ ?_ ?_
      · obtain ⟨p, hm, rfl⟩ := List.mem_map.mp hq
        exact ⟨(key p hm).shp, (key p hm).fine⟩
      · rw [List.map_map]
        exact maxl_map_le fun p hm => (key p hm).dp
      · rw [List.map_map]
        exact sum_map_le fun p hm => (key p hm).sz
      · rw [List.map_map]
        exact sum_map_le fun p hm => (key p hm).pts
      · rw [List.map_map]
        exact maxl_map_le fun p hm => (key p hm).deep
theorem stands_shp {L : List Ln} (n : Nat) : ∀ g, dp g ≤ n → stands L g = true → shp g = true ∧ dp g ≤ deep g + 1 := by
  induction n with
  | zero =>
    intro g h
    have := dp_pos g
    omega
  | succ n ih =>
    intro g hd hs
    cases g with
    | s x => exact ⟨by simp [shp], by rw [dp_s]; have := deep_pos (.s x); omega⟩
    | o => simp [stands] at hs
    | l => simp [stands] at hs
    | t gs =>
      cases gs with
      | nil => simp [stands] at hs
      | cons h ps =>
        rw [stands_t, Bool.and_eq_true, List.all_eq_true] at hs
        cases h with
        | s x =>
          have key : ∀ p ∈ ps, shp p = true ∧ dp p ≤ deep p + 1 := fun p hm => ih p (dp_mem hd (List.mem_cons_of_mem _ hm)) (hs.2 p hm)
          refine ⟨shp_mk fun p hm => (key p hm).1, ?_⟩
          rw [dp_ts, deep_t]
          have : maxl (ps.map dp) ≤ maxl (ps.map deep) + 1 := maxl_le.mpr fun m hm => by
            obtain ⟨p, hp, rfl⟩ := List.mem_map.mp hm
            have h1 := (key p hp).2
            have h2 := le_maxl (List.mem_map.mpr ⟨p, hp, rfl⟩ : deep p ∈ ps.map deep)
            omega
          omega
        | _ => simp [hasParts] at hs
theorem stands_head {L : List Ln} {h : G} {ps : List G} (hs : stands L (.t (h :: ps)) = true) : ∃ x l, h = .s x ∧ find L x = some l ∧ ∀ p ∈ ps, stands L p = true := by
  rw [stands_t, Bool.and_eq_true, List.all_eq_true] at hs
  cases h with
  | s x =>
    cases hf : find L x with
    | none => simp [hasParts, hf] at hs
    | some l => exact ⟨x, l, rfl, hf, hs.2⟩
  | _ => simp [hasParts] at hs
/-- a thing as data, small enough to be compared -/
theorem toD_ok (n : Nat) : ∀ g, dp g ≤ n → shp g = true → fine g = true → PyData.canLay0 (toD g) = true ∧ PyData.depth (toD g) ≤ n := by
  induction n with
  | zero =>
    intro g h
    have := dp_pos g
    omega
  | succ n ih =>
    intro g hd hs hf
    rcases shp_cases hs with ⟨x, rfl⟩ | ⟨x, ps, rfl, hp⟩
    · rw [toD]
      rw [fine, Bool.and_eq_true] at hf
      refine ⟨by simpa [PyData.canLay0] using hf.2, ?_⟩
      simp [PyData.depth]
    · rw [toD]
      have key : ∀ q ∈ (.s x :: ps : List G), PyData.canLay0 (toD q) = true ∧ PyData.depth (toD q) ≤ n := fun q hq => by
        have hd' := dp_mem hd hq
        rcases List.mem_cons.mp hq with rfl | hq'
        · exact ih _ hd' (by simp [shp]) (fine_mem hf List.mem_cons_self)
        · exact ih q hd' (hp q hq') (fine_mem hf hq)
      generalize (G.s x :: ps) = gs at key
      have k2 : PyData.canLayAll0 (gs.map toD) = true ∧ PyData.depthAll (gs.map toD) ≤ n := by
        clear hd hs hf hp
        induction gs with
        | nil => simp [PyData.canLayAll0, PyData.depthAll]
        | cons g r ih2 =>
          obtain ⟨a, b⟩ := key g List.mem_cons_self
          obtain ⟨c, d⟩ := ih2 fun q hq => key q (List.mem_cons_of_mem _ hq)
          rw [List.map_cons]
          refine ⟨?_, ?_⟩
          · simp only [PyData.canLayAll0, Bool.and_eq_true]
            exact ⟨a, c⟩
          · simp only [PyData.depthAll]
            exact Nat.max_le.mpr ⟨b, d⟩
      refine ⟨by simpa [PyData.canLay0] using k2.1, ?_⟩
      simp only [PyData.depth]
      omega
theorem toD_shaped {g : G} (hd : dp g ≤ 60) (hs : shp g = true) (hf : fine g = true) : SeqAt.shaped (toD g) = true := by
  obtain ⟨a, b⟩ := toD_ok 60 g hd hs hf
  unfold SeqAt.shaped
  rw [a, Bool.true_and, decide_eq_true_iff]
  omega
/-- sorting pairs of things and their values -/
theorem sort_pairs {K : PySem.W.Frag} {H : Hp} {ps : List (V × G)} (h : ∀ p ∈ ps, In K H p.1 p.2) : InL K H ((ps.mergeSort (SrtF.leK fun p => text p.2)).map Prod.fst) (sortT (ps.map Prod.snd)) := by
  have e : sortT (ps.map Prod.snd) = (ps.mergeSort (SrtF.leK fun p => text p.2)).map Prod.snd := by
    unfold sortT
    exact (List.map_mergeSort (r := SrtF.leK fun p : V × G => text p.2) (s := SrtF.leK text) (f := Prod.snd) (l := ps) fun a _ b _ => rfl).symm
  rw [e]
  have h2 : ∀ p ∈ ps.mergeSort (SrtF.leK fun p => text p.2), In K H p.1 p.2 := fun p hp => h p ((List.mergeSort_perm _ _).mem_iff.mp hp)
  generalize ps.mergeSort (SrtF.leK fun p => text p.2) = l at h2
  induction l with
  | nil => exact .nil
  | cons p r ih => exact .cons (h2 p List.mem_cons_self) (ih fun q hq => h2 q (List.mem_cons_of_mem _ hq))
theorem zip_in {K : PySem.W.Frag} {H : Hp} : ∀ {xs : List V} {gs : List G}, InL K H xs gs → ((xs.zip gs).map Prod.fst = xs ∧ (xs.zip gs).map Prod.snd = gs) ∧ ∀ p ∈ xs.zip gs, In K H p.1 p.2 ∧ p.2 ∈ gs
  | _, _, .nil => ⟨⟨rfl, rfl⟩, fun p hp => by simp at hp⟩
  | _, _, .cons h t => by
    obtain ⟨⟨e1, e2⟩, e3⟩ := zip_in t
    refine ⟨⟨by rw [List.zip_cons_cons, List.map_cons, e1], by rw [List.zip_cons_cons, List.map_cons, e2]⟩, fun p hp => ?_⟩
    rw [List.zip_cons_cons] at hp
    rcases List.mem_cons.mp hp with rfl | hp
    · exact ⟨h, List.mem_cons_self⟩
    · exact ⟨(e3 p hp).1, List.mem_cons_of_mem _ (e3 p hp).2⟩
end K1
set_option Elab.async false
set_option linter.all false
set_option maxRecDepth 100000
set_option maxHeartbeats 1000000
namespace K1
open PySem PySem.Spec PyProof.Rows L2
open PySem.W (EachIs)
abbrev sMade : Stmt := topS 31
abbrev sOpened : Stmt := topS 32
abbrev sAnew : Stmt := topS 33
abbrev sOrNone : Stmt := topS 34


/-- parts that may be put together -/
structure Parts (gs : List G) (n : Nat) : Prop where
  shp : ∀ g ∈ gs, shp g = true
  fine : ∀ g ∈ gs, fine g = true
  dp : ∀ g ∈ gs, dp g ≤ n
  sz : (gs.map sz).sum ≤ 2000
theorem Parts.len {gs : List G} {n : Nat} (h : Parts gs n) : gs.length ≤ 2000 := by
  have := len_le_sum (ns := gs.map K1.sz) fun m hm => by
    obtain ⟨g, _, rfl⟩ := List.mem_map.mp hm
    exact sz_pos g
  rw [List.length_map] at this
  exact Nat.le_trans this h.sz
theorem Parts.one {gs : List G} {n : Nat} (h : Parts gs n) {g : G} (hg : g ∈ gs) : K1.sz g ≤ 2000 := Nat.le_trans (le_sum (List.mem_map.mpr ⟨g, hg, rfl⟩)) h.sz
theorem Parts.opn {gs : List G} {n : Nat} (h : Parts gs n) (k x : Str) : Parts (opn k x gs) n := by
  refine ⟨fun g hg => ?_, fun g hg => ?_, fun g hg => ?_, Nat.le_trans (opn_sum K1.sz (fun x rs => by rw [sz_ts]; omega) k x gs) h.sz⟩
  · rcases opn_mem hg with h1 | ⟨rs, h1, h2⟩
    · exact h.shp g h1
    · have := h.shp _ h1
      rw [shp_t, List.all_eq_true] at this
      exact this g h2
  · rcases opn_mem hg with h1 | ⟨rs, h1, h2⟩
    · exact h.fine g h1
    · exact fine_mem (h.fine _ h1) (List.mem_cons_of_mem _ h2)
  · rcases opn_mem hg with h1 | ⟨rs, h1, h2⟩
    · exact h.dp g h1
    · have := h.dp _ h1
      have h3 := dp_mem (ps := G.s x :: rs) (n := K1.dp (G.t (G.s x :: rs)) - 1) (by have := dp_pos (G.t (G.s x :: rs)); omega) (List.mem_cons_of_mem (G.s x) h2)
      omega
theorem flat_snoc (x : Str) (gs : List G) (g : G) : flat x (gs ++ [g]) = flat x gs ++ oneP x g := by
  unfold flat
  rw [List.flatMap_append]
  simp
theorem flat_len {x : Str} {gs : List G} {n : Nat} (h : Parts gs n) : (flat x gs).length ≤ 2000 := by
  have h2 := opn_sum K1.sz (fun x rs => by rw [sz_ts]; omega) (Str.ofString "row") x gs
  have e : opn (Str.ofString "row") x gs = flat x gs := by
    unfold opn
    rw [if_pos (by decide +kernel)]
  rw [e] at h2
  have := len_le_sum (ns := (flat x gs).map K1.sz) fun m hm => by
    obtain ⟨g, _, rfl⟩ := List.mem_map.mp hm
    exact sz_pos g
  rw [List.length_map] at this
  have := h.sz
  omega
theorem Parts.take {gs : List G} {n : Nat} (h : Parts gs n) (i : Nat) : Parts (gs.take i) n := by
  refine ⟨fun g hg => h.shp g (List.mem_of_mem_take hg), fun g hg => h.fine g (List.mem_of_mem_take hg), fun g hg => h.dp g (List.mem_of_mem_take hg), ?_⟩
  have h2 : gs = gs.take i ++ gs.drop i := (List.take_append_drop _ _).symm
  have h3 := h.sz
  rw [h2, List.map_append, List.sum_append] at h3
  omega
def spOpened (K : PySem.W.Frag) : Sp := fun vs H Q _ => ∃ (x : Str) (l : Addr) (xs : List V) (gs : List G), vs = [.str x, .ref l] ∧ SqL K H l xs ∧ InL K H xs gs ∧ Parts gs 2000 ∧
  ∀ H' p ys, Same H H' → H' p = some (.lst ys) → InL K H' ys (flat x gs) → Q (.ref p) H'
section
variable {P : Program} {w : World} {K : PySem.W.Frag} {mg : Str → Option Value} {base : Heap}
theorem scOpened : FnScope ["name", "parts", "flat", "part"] ["name", "parts"] (defScope sOpened) := ⟨rfl, rfl, rfl, by decide +kernel, rfl, by decide +kernel, by decide +kernel⟩
theorem ok_opened {f : Addr} {fd : FuncData} (F : Fun K "opened" "opened" sOpened f fd) (T : Ct mg) : FnOk P w K mg base C8.CX0 1 f fd ["name", "parts"] (spOpened K) := by
  refine F.ok scOpened (fun vs H Q E h => ?_) (fun cdv A outer s H vs Q E hr h => ?_)
  · obtain ⟨x, l, xs, gs, rfl, _⟩ := h
    rfl
  · obtain ⟨x, l, xs, gs, rfl, hx, hg, hP, k⟩ := h
    refine ⟨_, pss_cons (ps_set (i := 2) scOpened.nd rfl (Or.inl rfl) (pe_lst pa_nil))
      (pss_cons (ps_for PassesOwn.never rfl (pi_list (pv 1)) (pg_name (i := 3) scOpened.nd rfl (Or.inl rfl))
        (pss_one (ps_if (PW.pt (pw_and (pt_not (pt_val (pe_callB call_isi (by rfl) T.isi boot_isinstance (pa_cons (pv 3) (pa_cons (pe_bltn (v := .ty "str") (by rfl) T.str boot_str rfl) pa_nil))))) (pw_and1 (pt_cmpR op_eq (pe_ix ix_tup (pv 3) pe_int (fun _ _ => rfl)) (pv 0) (nomark _)))))
          (pss_one (ps_expr (pe_bm PySem.F.plainAttrs_list PySem.F.slot_list_extend PySem.F.type_list_extend SrtF.mt_extT (pv 2) (pa_cons (pe_slice sl_tup (pv 3) (po_some pe_int) po_none) pa_nil))))
          (pss_one (ps_expr (pe_bm PySem.F.plainAttrs_list PySem.F.slot_list_append PySem.F.type_list_append mt_append (pv 2) (pa_cons (pv 3) pa_nil)))))))
      (pss_one (ps_ret (pv 2)))), ?_⟩
    refine ⟨(by show 0 ≤ sizeLine; decide), fun D hD => ?_⟩
    have s0 := Same.new (o := .lst []) (Same.refl H) hD
    refine ⟨_, rfl, l, rfl, ⟨_, s0.seq hx⟩, for_list (K := K) (a := l) (xs := xs) (fun i σ H' => ∃ (v3 : Option V) (ys : List V), σ = [some (.str x), some (.ref l), some (.ref D), v3] ∧ Same H H' ∧ H' D = some (.lst ys) ∧ InL K H' ys (flat x (gs.take i)))
      ⟨none, [], rfl, s0, upd_same, by simp only [List.take_zero]; exact .nil⟩ (fun i σ H' _ ⟨_, _, _, sm, _⟩ => sm.seq hx) ?_ ?_⟩
    · rintro i v σ H' hi ⟨v3, ys, rfl, sm, eD, hys⟩
      obtain ⟨g, hgi, hin⟩ := hg.at hi
      have hgm := List.mem_of_getElem? hgi
      have hin' := hin.same sm
      have hlys := hys.len
      have hfl := flat_len (x := x) (hP.take i)
      have hfl2 := flat_len (x := x) (hP.take (i + 1))
      rw [take_snoc hgi, flat_snoc, List.length_append] at hfl2
      have hsp : ∀ q ∈ flat x (gs.take i), shp q = true := by
        have e : opn (Str.ofString "row") x (gs.take i) = flat x (gs.take i) := by
          unfold opn
          rw [if_pos (by decide +kernel)]
        rw [← e]
        exact ((hP.take i).opn _ x).shp
      obtain ⟨d, t1, t2⟩ := isi_str hin'
      refine ⟨_, rfl, _, _, _, _, _, rfl, .ty "str", t1, t2, _, rfl, ?_⟩
      -- what is appended as it is
      have one : oneP x g = [g] → (∃ y : V, y = v ∧ y = v) → ∃ l2 xs2 y, V.ref D = V.ref l2 ∧ [v] = [y] ∧ H' l2 = some (.lst xs2) ∧ xs2.length + 1 ≤ sizeLine ∧
          ∃ (v3 : Option V) (ys' : List V), [some (V.str x), some (.ref l), some (.ref D), some v] = [some (.str x), some (.ref l), some (.ref D), v3] ∧ Same H (upd H' l2 (.lst (xs2 ++ [y]))) ∧ (upd H' l2 (.lst (xs2 ++ [y]))) D = some (.lst ys') ∧ InL K (upd H' l2 (.lst (xs2 ++ [y]))) ys' (flat x (gs.take (i + 1))) := by
        intro e1 _
        refine ⟨D, ys, v, rfl, rfl, eD, by rw [hlys, sizeLine_eq]; omega, some v, ys ++ [v], rfl, ?_, upd_same, ?_⟩
        · exact fun b o h => by
            rw [upd_ne (ne_of_none h hD)]
            exact sm b o h
        · rw [take_snoc hgi, flat_snoc, e1]
          have off : TupK H' (upd H' D (.lst (ys ++ [v]))) := (TupK.of (Ext.refl H')).off eD
          exact (inL_tk off _ _ hsp hys).app (.cons (in_tk off g v (hP.shp g hgm) hin') .nil)
      rcases shp_cases (hP.shp g hgm) with ⟨y, rfl⟩ | ⟨y, ps, rfl, hp⟩
      · refine iteF ?_
        obtain ⟨l2, xs2, y2, e1, e2, e3, e4, e5⟩ := one rfl ⟨v, rfl, rfl⟩
        exact ⟨_, rfl, .inl ⟨rfl, _, SqL.of eD⟩, _, rfl, l2, xs2, y2, e1, e2, e3, e4, e5⟩
      · refine iteT ?_
        obtain ⟨a, zs, rfl, hz, hgz⟩ := hin'.tup
        obtain ⟨v0, e0, h0⟩ := hgz.get (i := 0) rfl
        obtain rfl := h0.str
        refine ⟨_, rfl, a, zs, 0, _, rfl, rfl, hz, atI_nat (j := 0) e0, _, rfl, rfl, _, rfl, ?_⟩
        refine ite2 (fun h1 => ?_) (fun h1 => ?_)
        · have h1' : y = x := V.str.inj (of_decide_eq_true h1)
          subst h1'
          refine ⟨_, rfl, .inl ⟨rfl, _, SqL.of eD⟩, _, rfl, _, rfl, a, zs, rfl, hz, whole_1 (ne_nil hgz), fun q hq => ?_⟩
          have nD : D ≠ q := ne_of_none eD hq
          have sq := Same.new (o := .tup (cutV zs (some 1) none)) (Same.refl H') hq
          have e1 : oneP y (.t (.s y :: ps)) = ps := by simp [oneP]
          have hd1 : InL K H' (zs.drop 1) ps := hgz.drop 1
          have hdl := hd1.len
          refine ⟨D, q, ys, cutV zs (some 1) none, rfl, rfl, by rw [upd_ne nD]; exact eD, SqT.of upd_same, ?_, _, ys ++ cutV zs (some 1) none, rfl, ?_, upd_same, ?_⟩
          · rw [e1] at hfl2
            rw [cut_1, hdl, hlys, sizeLine_eq]
            omega
          · exact fun b o h => by
              rw [upd_ne (ne_of_none h hD)]
              exact sq b o (sm b o h)
          · rw [take_snoc hgi, flat_snoc, e1]
            have off : TupK H' (upd (upd H' q (.tup (cutV zs (some 1) none))) D (.lst (ys ++ cutV zs (some 1) none))) := (TupK.of (Ext.of sq)).off (by rw [upd_ne nD]; exact eD)
            have z := (inL_tk off _ _ hsp hys).app (inL_tk off _ _ hp hd1)
            rw [← cut_1] at z
            exact z
        · have h1' : y ≠ x := fun z => h1 (by rw [z]; exact decide_eq_true rfl)
          obtain ⟨l2, xs2, y2, e1, e2, e3, e4, e5⟩ := one (by simp [oneP, h1']) ⟨_, rfl, rfl⟩
          exact ⟨_, rfl, .inl ⟨rfl, _, SqL.of eD⟩, _, rfl, l2, xs2, y2, e1, e2, e3, e4, e5⟩
    · rintro σ H' ⟨v3, ys, rfl, sm, eD, hys⟩
      rw [hg.len, List.take_length] at hys
      exact ⟨_, rfl, k H' D ys sm eD hys⟩
theorem scMade : FnScope ["signs", "name", "parts", "kind"] ["signs", "name", "parts"] (defScope sMade) := ⟨rfl, rfl, rfl, by decide +kernel, rfl, by decide +kernel, by decide +kernel⟩
def spMade (K : PySem.W.Frag) (C : Addr) (n : Nat) : Sp := fun vs H Q _ => ∃ (p : Addr) (L : List Ln) (x : Str) (l : Addr) (xs : List V) (gs : List G) (ln : Ln), vs = [.ref p, .str x, .ref l] ∧ SgL K C H p L ∧ LOk L ∧ find L x = some ln ∧ SqL K H l xs ∧ InL K H xs gs ∧ Parts gs n ∧
  ∀ H' v, Same H H' → In K H' v (.t (.s x :: arr ln.2.1 x gs)) → Q v H'
theorem ok_made {f C : Addr} {fd : FuncData} {n m : Nat} (F : Fun K "made" "made" sMade f fd) (MK : Mt P w K mg base C8.CX0 C "kind" 2 ["self", "name"] (spKindG K C)) (DO : Df P w K mg base C8.CX0 "opened" 1 ["name", "parts"] (spOpened K))
    (DT : Df P w K mg base C8.CX0 "text_of" m ["term"] (sp1 K n fun g => .str (text g))) (T : Ct mg) (G' : SgC K C) (hn : n ≤ 2000) : FnOk P w K mg base C8.CX0 (m + 3) f fd ["signs", "name", "parts"] (spMade K C n) := by
  obtain ⟨fk, fdk, FK, mK, bK⟩ := MK.ex
  obtain ⟨ft, fdt, FT, gT, kT, bT⟩ := DT.ex
  refine F.ok scMade (fun vs H Q E h => ?_) (fun cdv A outer s H vs Q E hr h => ?_)
  · obtain ⟨p, L, x, l, xs, gs, ln, rfl, _⟩ := h
    rfl
  · obtain ⟨p, L, x, l, xs, gs, ln, rfl, S, ok, hf, hx, hg, hP, k⟩ := h
    have hr2 : Room 2 _ := hr.mono (by omega)
    refine ⟨_, pss_cons (ps_set (i := 3) scMade.nd rfl (Or.inl rfl) (pe_meth (pv 0) G'.cl mK FK hr2 bK .nil pass0 (pa_cons (pv 1) pa_nil)))
      (C8.pss_cut (ps_if (pt_cmpR (op_inT (units65 hr)) (pv 3) (pe_tup (pa_cons pe_str (pa_cons pe_str pa_nil))) (by rfl)) (pss_one (ps_set (i := 2) scMade.nd rfl (Or.inl rfl) (pe_df DO hr2 pass0 (pa_cons (pv 1) (pa_cons (pv 2) pa_nil))))) pss_nil)
      (C8.pss_cut (ps_if (pt_cmpR (op_inT (units65 hr)) (pv 3) (pe_tup (pa_cons pe_str (pa_cons pe_str pa_nil))) (by rfl)) (pss_one (ps_set (i := 2) scMade.nd rfl (Or.inl rfl) (pe_callBK (SrtF.cr_sortF (T := G) FT hr bT) (by rfl) T.sorted (by decide +kernel) (pa_cons (pv 2) pa_nil) (pk_cons (pe_glob (v := .ref ft) (by rfl) gT rfl) pk_nil)))) pss_nil)
      (pss_one (ps_ret (pe_tup (pa_cons (pv 1) (StX.pa_star (pv 2) pa_nil))))))), ?_⟩
    obtain ⟨rt, td, zs, ⟨⟨dx, hp⟩, _⟩, _⟩ := id S
    obtain ⟨m1, m2⟩ := find_mem hf
    obtain ⟨sk, _, _, _⟩ := kinds_ok _ (ok.kd ln m1)
    refine ⟨_, rfl, p, dx, _, rfl, hp, sgF_no rt td (by decide +kernel) (by decide +kernel), _, rfl, p, L, x, ln, rfl, S, hf, ?_⟩
    refine ⟨fun σ' H' => ∃ (l2 : Addr) (ys : List V), σ' = [some (.ref p), some (.str x), some (.ref l2), some (.str ln.2.1)] ∧ Same H H' ∧ SqL K H' l2 ys ∧ InL K H' ys (opn ln.2.1 x gs), ?_, ?_⟩
    · refine ⟨_, rfl, (by show 2 ≤ sizeLine; decide), fun q hq0 => ⟨.str ln.2.1, [.str "row", .str "heap"], .str _, .tup (SqT.of upd_same) (.cons (.str _) (.cons (.str _) .nil)), sk, by decide +kernel, _, rfl, ?_⟩⟩
      have s1 := Same.new (o := .tup [.str "row", .str "heap"]) (Same.refl H) hq0
      refine ite2 (fun h2 => ?_) (fun h2 => ?_)
      · have h2' : rowish ln.2.1 = true := h2
        refine ⟨_, rfl, _, rfl, x, l, xs, gs, rfl, s1.seq hx, hg.same s1, ⟨hP.shp, hP.fine, fun g hg => Nat.le_trans (hP.dp g hg) hn, hP.sz⟩, fun H2 p2 ys s2 e2 h2 => ⟨p2, ys, rfl, s1.trans s2, SqL.of e2, ?_⟩⟩
        unfold opn
        rw [if_pos h2']
        exact h2
      · refine ⟨l, xs, rfl, s1, s1.seq hx, ?_⟩
        unfold opn
        rw [if_neg (show ¬ rowish ln.2.1 = true from h2)]
        exact hg.same s1
    · rintro σ' H1 ⟨l2, ys, rfl, s1, hl2, hys⟩
      refine ⟨fun σ' H' => ∃ (l3 : Addr) (us : List V), σ' = [some (.ref p), some (.str x), some (.ref l3), some (.str ln.2.1)] ∧ Same H H' ∧ SqL K H' l3 us ∧ InL K H' us (arr ln.2.1 x gs), ?_, ?_⟩
      · refine ⟨_, rfl, (by show 2 ≤ sizeLine; decide), fun q hq0 => ⟨.str ln.2.1, [.str "pair", .str "heap"], .str _, .tup (SqT.of upd_same) (.cons (.str _) (.cons (.str _) .nil)), sk, by decide +kernel, _, rfl, ?_⟩⟩
        have s2 := Same.new (o := .tup [.str "pair", .str "heap"]) (Same.refl H1) hq0
        refine ite2 (fun h2 => ?_) (fun h2 => ?_)
        · have h2' : loose ln.2.1 = true := h2
          have hP2 := hP.opn ln.2.1 x
          obtain ⟨⟨z1, z2⟩, z3⟩ := zip_in (hys.same s2)
          refine ⟨_, rfl, l2, ys.zip (opn ln.2.1 x gs), text, rfl, rfl, by rw [z1]; exact s2.seq hl2, fun pr hpr H' sm => ?_, fun p3 H' sm hp3 => ?_⟩
          · obtain ⟨a1, a2⟩ := z3 pr hpr
            exact ⟨_, _, rfl, a1.same sm, hP2.shp _ a2, hP2.fine _ a2, hP2.dp _ a2, hP2.one a2, fun H'' s'' => ⟨rfl, s''⟩⟩
          · have sN := Same.new (o := .lst (((ys.zip (opn ln.2.1 x gs)).mergeSort (SrtF.leK fun p => text p.2)).map Prod.fst)) sm hp3
            refine ⟨p3, _, rfl, (s1.trans s2).trans sN, SqL.of upd_same, ?_⟩
            unfold arr
            rw [if_pos h2']
            have := sort_pairs (K := K) fun pr hpr => ((z3 pr hpr).1.same sN)
            rw [z2] at this
            exact this
        · refine ⟨l2, ys, rfl, s1.trans s2, s2.seq hl2, ?_⟩
          unfold arr
          rw [if_neg (show ¬ loose ln.2.1 = true from h2)]
          exact hys.same s2
      · rintro σ' H2 ⟨l3, us, rfl, s2, hl3, hus⟩
        have hul := hus.len
        have hal : (arr ln.2.1 x gs).length ≤ 2000 := by
          rw [(arr_perm ln.2.1 x gs).length_eq]
          exact (hP.opn ln.2.1 x).len
        refine ⟨_, rfl, _, rfl, l3, us, rfl, .inr hl3, ?_, fun q hq => k _ _ (s2.trans (Same.new (Same.refl H2) hq)) (.t (SqT.of upd_same) (.cons (.s x) ?_))⟩
        · rw [sizeLine_eq]
          simp only [List.length_cons, List.length_append, List.length_nil]
          omega
        · have e : us ++ [] = us := List.append_nil us
          rw [e]
          exact hus.same (Same.new (Same.refl H2) hq)
end
end K1
set_option Elab.async false
set_option linter.all false
set_option maxRecDepth 100000
set_option maxHeartbeats 1000000
namespace K1
open PySem PySem.Spec PyProof.Rows L2
open PySem.W (EachIs)
theorem kindOf_find {L : List Ln} {x : Str} {l : Ln} (h : find L x = some l) : kindOf L x = l.2.1 := by
  unfold kindOf
  rw [h]
theorem parts_of {L : List Ln} {n : Nat} {x : Str} {ps : List G} (hs : ∀ p ∈ ps, shp p = true) (hf : fine (.t (.s x :: ps)) = true) (hd : dp (.t (.s x :: ps)) ≤ n + 1) (hz : sz (.t (.s x :: ps)) ≤ 2000) : Parts (ps.map (laid L)) n := by
  have key : ∀ p ∈ ps, Less (laid L p) p := fun p hm => laid_less (dp p) p (Nat.le_refl _) (hs p hm) (fine_mem hf (List.mem_cons_of_mem _ hm))
  refine ⟨fun g hg => ?_, fun g hg => ?_, fun g hg => ?_, ?_⟩
  · obtain ⟨p, hm, rfl⟩ := List.mem_map.mp hg
    exact (key p hm).shp
  · obtain ⟨p, hm, rfl⟩ := List.mem_map.mp hg
    exact (key p hm).fine
  · obtain ⟨p, hm, rfl⟩ := List.mem_map.mp hg
    exact Nat.le_trans (key p hm).dp (dp_mem hd (List.mem_cons_of_mem _ hm))
  · rw [List.map_map]
    have h1 : (ps.map (sz ∘ laid L)).sum ≤ (ps.map sz).sum := sum_map_le fun p hm => (key p hm).sz
    rw [sz_ts] at hz
    omega
theorem each_fine {K : PySem.W.Frag} {H : Hp} {F : G → G} {P R : G → Prop} : ∀ {ys : List V} {ps : List G}, EachIs (fun y g => P g → R g → In K H y (F g)) ys ps → (∀ g ∈ ps, P g) → (∀ g ∈ ps, R g) → EachIs (fun y g => In K H y (F g)) ys ps
  | _, _, .nil, _, _ => .nil
  | _, _, .cons h t, a, b => .cons (h (a _ List.mem_cons_self) (b _ List.mem_cons_self)) (each_fine t (fun g hg => a g (List.mem_cons_of_mem _ hg)) (fun g hg => b g (List.mem_cons_of_mem _ hg)))
def spAnew (K : PySem.W.Frag) (C : Addr) (n : Nat) : Sp := fun vs H Q _ => ∃ (p : Addr) (L : List Ln) (v : V) (g : G), vs = [.ref p, v] ∧ SgL K C H p L ∧ LOk L ∧ In K H v g ∧ stands L g = true ∧ fine g = true ∧ dp g ≤ n ∧ sz g ≤ 2000 ∧
  ∀ H' v', Same H H' → In K H' v' (laid L g) → Q v' H'
def lay0 (L : List Ln) (g : G) : Bool := stands L g && (decide (points g ≤ 80) && (decide (deep g ≤ 12) && !beyond (laid L g)))
def spOrNone (K : PySem.W.Frag) (C : Addr) : Sp := fun vs H Q _ => ∃ (p : Addr) (L : List Ln) (v : V) (g : G), vs = [.ref p, v] ∧ SgL K C H p L ∧ LOk L ∧ In K H v g ∧ fine g = true ∧ sz g ≤ 2000 ∧
  ∀ H', Same H H' → (lay0 L g = false → Q .non H') ∧ (lay0 L g = true → ∀ v', In K H' v' (laid L g) → Q v' H')
def spIs (K : PySem.W.Frag) (C : Addr) (f : List Ln → G → Bool) : Sp := fun vs H Q _ => ∃ (p : Addr) (L : List Ln) (v : V) (g : G), vs = [.ref p, v] ∧ SgL K C H p L ∧ LOk L ∧ In K H v g ∧ fine g = true ∧ sz g ≤ 2000 ∧ ∀ H', Same H H' → Q (.bl (f L g)) H'
def isTermB (L : List Ln) (g : G) : Bool := lay0 L g && PyData.eqv (toD (laid L g)) (toD g)
section
variable {P : Program} {w : World} {K : PySem.W.Frag} {mg : Str → Option Value} {base : Heap}
theorem scAnew : FnScope ["signs", "draft", "part"] ["signs", "draft"] (defScope sAnew) := ⟨rfl, rfl, rfl, by decide +kernel, rfl, by decide +kernel, by decide +kernel⟩
theorem ok_anew {f C : Addr} {fd : FuncData} {n N m : Nat} (F : Fun K "laid_anew" "laid_anew" sAnew f fd) (IH : Df P w K mg base C8.CX0 "laid_anew" m ["signs", "draft"] (spAnew K C n)) (DM : Df P w K mg base C8.CX0 "made" m ["signs", "name", "parts"] (spMade K C N)) (T : Ct mg) (hN : n ≤ N) :
    FnOk P w K mg base C8.CX0 (m + 1) f fd ["signs", "draft"] (spAnew K C (n + 1)) := by
  refine F.ok scAnew (fun vs H Q E h => ?_) (fun cdv A outer s H vs Q E hr h => ?_)
  · obtain ⟨p, L, v, g, rfl, _⟩ := h
    rfl
  · obtain ⟨p, L, v, g, rfl, S, ok, hin, hst, hf, hd, hz, k⟩ := h
    refine ⟨_, pss_cons (ps_if (pt_val (pe_callB call_isi (by rfl) T.isi boot_isinstance (pa_cons (pv 1) (pa_cons (pe_bltn (v := .ty "str") (by rfl) T.str boot_str rfl) pa_nil)))) (pss_one (ps_ret (pv 1))) pss_nil)
      (pss_one (ps_ret (pe_df DM hr pass0 (pa_cons (pv 0) (pa_cons (pe_ix ix_tup (pv 1) pe_int (fun _ _ => rfl)) (pa_cons (pe_lc (own := [("part", 2)]) (g := gName 2) (tt := tYes) rfl scAnew.nd (pi_tup (pe_slice sl_tup (pv 1) (po_some pe_int) po_none)) (blkOk_by (N := ["signs", "draft", "part"]) (sc := defScope sAnew) (by decide +kernel)) (fun _ _ _ _ _ => pg_name (i := 2) scAnew.nd rfl (Or.inl rfl)) (fun _ _ _ _ _ => pts_nil)
        (fun _ _ _ _ _ => pe_df IH hr pass0 (pa_cons (pv 0) (pa_cons (pv 2) pa_nil)) (Nat.le_refl _))) pa_nil))) (Nat.le_refl _)))), ?_⟩
    obtain ⟨d, t1, t2⟩ := isi_str hin
    refine ⟨_, rfl, _, _, _, _, _, rfl, .ty "str", t1, t2, _, rfl, ?_⟩
    obtain ⟨hs, _⟩ := stands_shp (dp g) g (Nat.le_refl _) hst
    rcases shp_cases hs with ⟨x, rfl⟩ | ⟨y, ps, rfl, hp⟩
    · exact iteT ⟨_, rfl, k H v (Same.refl H) (by rw [laid_s]; exact hin)⟩
    · refine iteF ?_
      obtain ⟨a, xs, rfl, hx, hg⟩ := hin.tup
      obtain ⟨v0, e0, h0⟩ := hg.get (i := 0) rfl
      obtain rfl := h0.str
      obtain ⟨y', l, ey, hfi, hsp⟩ := stands_head hst
      cases ey
      have hlen := hg.len
      have hsl := sz_len (.s y :: ps)
      refine ⟨_, rfl, _, rfl, a, xs, 0, _, rfl, rfl, hx, atI_nat (j := 0) e0, _, rfl, _, rfl, a, xs, rfl, hx, whole_1 (ne_nil hg), fun q hq => ⟨q, rfl, ⟨_, SqT.of upd_same⟩, fun D hD => ?_⟩⟩
      have sq := Same.new (o := .tup (cutV xs (some 1) none)) (Same.refl H) hq
      have hgd : InL K (upd H q (.tup (cutV xs (some 1) none))) (cutV xs (some 1) none) ps := by
        have z := (hg.drop 1).same sq
        rw [← cut_1] at z
        exact z
      have hPl := parts_of (L := L) hp hf hd hz
      refine lc_in (K := K) (gs := ps) (J := fun H' => Same (upd H q (.tup (cutV xs (some 1) none))) H') (fun H y g => shp g = true → fine g = true → In K H y (laid L g)) hD (SqT.of upd_same) hgd ?_ (fun y g H H' h tk h1 h2 => in_tk tk _ _ (laid_less (dp g) g (Nat.le_refl _) h1 h2).shp (h h1 h2)) (fun _ => rfl) (same_J (H := H) hD) (Same.new (Same.refl _) hD) ?_ ?_
      · rw [hgd.len]
        simp only [List.length_cons] at hsl
        omega
      · intro x g H' hgm hxin e hjj Q' q'
        have hgm' : g ∈ .s y :: ps := List.mem_cons_of_mem _ hgm
        exact ⟨_, rfl, x, rfl, p, L, x, g, rfl, S.same (sq.trans hjj), ok, hxin, hsp g hgm, fine_mem hf hgm', dp_mem hd hgm', by have := sz_mem hgm'; omega, fun H'' v' s'' hv' => q' _ _ (.of s'') (hjj.trans s'') fun _ _ => hv'⟩
      · intro H' ys e hjj eD hr'
        have sA := sq.trans hjj
        have hys : InL K H' ys (ps.map (laid L)) := by
          have hr2 := each_fine (P := fun g => shp g = true) (R := fun g => fine g = true) hr' hp fun g hg => fine_mem hf (List.mem_cons_of_mem _ hg)
          exact each_in hr2
        exact ⟨p, L, y, D, ys, ps.map (laid L), l, rfl, S.same sA, ok, hfi, SqL.of eD, hys, ⟨hPl.shp, hPl.fine, fun g hg => Nat.le_trans (hPl.dp g hg) hN, hPl.sz⟩, fun H'' v' s'' hv' => k H'' v' (sA.trans s'') (by rw [laid_t, kindOf_find hfi]; exact hv')⟩
theorem scOrNone : FnScope ["signs", "thing", "term"] ["signs", "thing"] (defScope sOrNone) := ⟨rfl, rfl, rfl, by decide +kernel, rfl, by decide +kernel, by decide +kernel⟩
theorem ok_orNone {f C : Addr} {fd : FuncData} {m : Nat} (F : Fun K "laid_or_none" "laid_or_none" sOrNone f fd) (DD : Df P w K mg base C8.CX0 "draft_points" m ["signs", "thing", "levels", "room"] (spDr K C 12)) (DA : Df P w K mg base C8.CX0 "laid_anew" m ["signs", "draft"] (spAnew K C 13))
    (DB : Df P w K mg base C8.CX0 "is_beyond" m ["term"] (sp1 K 13 fun g => .bl (beyond g))) (T : Ct mg) : FnOk P w K mg base C8.CX0 (m + 1) f fd ["signs", "thing"] (spOrNone K C) := by
  refine F.ok scOrNone (fun vs H Q E h => ?_) (fun cdv A outer s H vs Q E hr h => ?_)
  · obtain ⟨p, L, v, g, rfl, _⟩ := h
    rfl
  · obtain ⟨p, L, v, g, rfl, S, ok, hin, hf, hz, k⟩ := h
    obtain ⟨_, hmp⟩ := T.mpts
    obtain ⟨_, hmd⟩ := T.mdeep
    refine ⟨_, pss_cons (ps_if (pt_cmpR op_eq (pe_df DD hr pass0 (pa_cons (pv 0) (pa_cons (pv 1) (pa_cons (pe_glob (v := .int 12) (by rfl) hmd ⟨_, rfl⟩) (pa_cons (pe_glob (v := .int 80) (by rfl) hmp ⟨_, rfl⟩) pa_nil)))) (Nat.le_refl _)) pe_int (nomark _)) (pss_one (ps_ret pe_non)) pss_nil)
      (pss_cons (ps_set (i := 2) scOrNone.nd rfl (Or.inl rfl) (pe_df DA hr pass0 (pa_cons (pv 0) (pa_cons (pv 1) pa_nil)) (Nat.le_refl _)))
      (pss_one (ps_ret (pe_ifExp (pt_val (pe_df DB hr pass0 (pa_cons (pv 2) pa_nil) (Nat.le_refl _))) pe_non (pv 2))))), ?_⟩
    refine ⟨_, rfl, _, rfl, p, L, v, g, 12, 80, rfl, S, ok, hin, hf, hz, Nat.le_refl _, fun H1 s1 => ⟨rfl, _, rfl, ?_⟩⟩
    refine ite2 (fun h1 => ?_) (fun h1 => ?_)
    · have h1' : drp L g 12 80 = 0 := by
        have := V.int.inj (of_decide_eq_true h1)
        omega
      refine (k H1 s1).1 ?_
      unfold lay0
      cases q : stands L g with
      | false => rfl
      | true =>
        by_cases q1 : points g ≤ 80
        · by_cases q2 : deep g ≤ 12
          · rw [drp_is ⟨q, q1, q2⟩] at h1'
            have := points_pos g
            omega
          · rw [decide_eq_false q2, Bool.false_and, Bool.and_false, Bool.and_false]
        · rw [decide_eq_false q1, Bool.false_and, Bool.and_false]
    · have h1' : drp L g 12 80 ≠ 0 := fun z => h1 (by rw [z]; rfl)
      obtain ⟨q, q1, q2⟩ := drp_no0 h1'
      obtain ⟨hs, hdd⟩ := stands_shp (dp g) g (Nat.le_refl _) q
      have el : lay0 L g = !beyond (laid L g) := by
        unfold lay0
        rw [q, decide_eq_true q1, decide_eq_true q2]
        rfl
      have hL := laid_less (L := L) (dp g) g (Nat.le_refl _) hs hf
      refine ⟨_, rfl, _, rfl, p, L, v, g, rfl, S.same s1, ok, hin.same s1, q, hf, by omega, hz, fun H2 v2 s2 hv2 => ?_⟩
      refine ⟨_, rfl, v2, laid L g, rfl, hv2, hL.shp, hL.fine, by have := hL.dp; omega, by have := hL.sz; omega, fun H3 s3 => ⟨_, rfl, ?_⟩⟩
      obtain ⟨k1, k2⟩ := k H3 ((s1.trans s2).trans s3)
      refine ite2 (fun h2 => k1 ?_) (fun h2 => ⟨_, rfl, k2 ?_ v2 (hv2.same s3)⟩)
      · rw [el, h2]
        rfl
      · rw [el]
        simpa using h2
theorem not_non {K : PySem.W.Frag} {H : Hp} {v : V} {g : G} (h : In K H v g) (hs : shp g = true) : decide (v = V.non) = false := by
  rcases shp_cases hs with ⟨x, rfl⟩ | ⟨y, ps, rfl, hp⟩
  · rw [h.str]
    rfl
  · obtain ⟨a, xs, rfl, _⟩ := h.tup
    rfl
theorem lay0_less {L : List Ln} {g : G} (h : lay0 L g = true) (hf : fine g = true) : Less (laid L g) g ∧ shp g = true ∧ dp g ≤ 13 := by
  unfold lay0 at h
  rw [Bool.and_eq_true, Bool.and_eq_true, Bool.and_eq_true, decide_eq_true_iff, decide_eq_true_iff] at h
  obtain ⟨q, q1, q2, _⟩ := h
  obtain ⟨hs, hdd⟩ := stands_shp (dp g) g (Nat.le_refl _) q
  exact ⟨laid_less (dp g) g (Nat.le_refl _) hs hf, hs, by omega⟩
end
end K1
set_option Elab.async false
set_option linter.all false
set_option maxRecDepth 100000
set_option maxHeartbeats 1000000
namespace K1
open PySem PySem.Spec PyProof.Rows L2
open PySem.W (EachIs)
/-! ### the law's own looks at terms -/
abbrev sLText : Stmt := topS 59
abbrev sLPts : Stmt := topS 61
abbrev sLDeep : Stmt := topS 62
section
variable {P : Program} {w : World} {K : PySem.W.Frag} {mg : Str → Option Value} {base : Heap}
abbrev nTP : List Str := ["_law_tree", "_law_part"]
theorem scLText : FnScope nTP ["_law_tree"] (defScope sLText) := ⟨rfl, rfl, rfl, by decide +kernel, rfl, by decide +kernel, by decide +kernel⟩
theorem ok_ltext {f : Addr} {fd : FuncData} {n : Nat} (F : Fun K "_law_text" "_law_text" sLText f fd) (IH : Df P w K mg base C8.CX0 "_law_text" n ["_law_tree"] (sp1 K n fun g => .str (text g))) (T : Ct mg) :
    FnOk P w K mg base C8.CX0 (n + 1) f fd ["_law_tree"] (sp1 K (n + 1) fun g => .str (text g)) := by
  refine F.ok scLText (fun vs H Q E h => ?_) (fun cdv A outer s H vs Q E hr h => ?_)
  · obtain ⟨v, g, rfl, _⟩ := h
    rfl
  · obtain ⟨v, g, rfl, hin, hs, hf, hd, hz, k⟩ := h
    refine ⟨_, pss_cons (ps_if (pt_val (pe_callB call_isi (by rfl) T.isi boot_isinstance (pa_cons (pv 0) (pa_cons (pe_bltn (v := .ty "str") (by rfl) T.str boot_str rfl) pa_nil)))) (pss_one (ps_ret (pv 0))) pss_nil)
      (pss_cons (ps_if (pt_cmpR op_eq (pe_callB call_len (by rfl) T.len PySem.boot_len (pa_cons (pv 0) pa_nil)) pe_int (nomark _)) (pss_one (ps_ret (pe_ix ix_tup (pv 0) pe_int (fun _ _ => rfl)))) pss_nil)
      (pss_one (ps_ret (pe_op op_add_str (pe_op op_add_str (pe_op op_add_str (pe_ix ix_tup (pv 0) pe_int (fun _ _ => rfl)) pe_str) (pe_join pe_str (pe_lc (own := [("_law_part", 1)]) (g := gName 1) (tt := tYes) rfl scLText.nd (pi_tup (pe_slice sl_tup (pv 0) (po_some pe_int) po_none)) (blkOk_by (N := nTP) (sc := defScope sLText) (by decide +kernel)) (fun _ _ _ _ _ => pg_name (i := 1) scLText.nd rfl (Or.inl rfl)) (fun _ _ _ _ _ => pts_nil)
        (fun _ _ _ _ _ => pe_df IH hr pass0 (pa_cons (pv 1) pa_nil) (Nat.le_refl _))))) pe_str)))), ?_⟩
    obtain ⟨d, t1, t2⟩ := isi_str hin
    refine ⟨_, rfl, _, _, _, _, _, rfl, .ty "str", t1, t2, _, rfl, ?_⟩
    have k' : ∀ H', Same H H' → Q (.str (text g)) H' := k
    rcases shp_cases hs with ⟨x, rfl⟩ | ⟨y, ps, rfl, hp⟩
    · refine iteT ⟨_, rfl, ?_⟩
      rw [hin.str]
      have q1 := k' H (Same.refl H)
      rw [show text (.s x) = x by rw [text]] at q1
      exact q1
    · refine iteF ?_
      obtain ⟨a, xs, rfl, hx, hg⟩ := hin.tup
      have hlen := hg.len
      have hy : y.length ≤ 10 := hd_len (fine_mem hf (p := .s y) List.mem_cons_self)
      obtain ⟨v0, e0, h0⟩ := hg.get (i := 0) rfl
      obtain rfl := h0.str
      refine ⟨_, rfl, .ref a, xs.length, rfl, .inr ⟨xs, hx, rfl⟩, rfl, _, rfl, ?_⟩
      cases ps with
      | nil =>
        refine iteT_ (by rw [hlen]; exact vint_eq rfl) ⟨_, rfl, a, xs, 0, _, rfl, rfl, hx, atI_nat (j := 0) e0, ?_⟩
        have q1 := k' H (Same.refl H)
        rw [text_one] at q1
        exact q1
      | cons p ps =>
        refine iteF_ (vint_ne (by rw [hlen]; simp only [List.length_cons]; omega)) ?_
        have lp : (Str.ofString "(").length = 1 := by decide +kernel
        have rp : (Str.ofString ")").length = 1 := by decide +kernel
        refine ⟨_, rfl, a, xs, 0, _, rfl, rfl, hx, atI_nat (j := 0) e0, _, _, rfl, rfl, ?_, ⟨_, rfl⟩, _, rfl, _, rfl, a, xs, rfl, hx, whole_1 (ne_nil hg), fun q hq => ⟨q, rfl, ⟨_, SqT.of upd_same⟩, fun D hD => rd2 hg hp hf hd hz hq hD (fun _ => rfl) (fun _ => rfl) (fun H' sm eD => ?_)⟩⟩
        · rw [lp, sizeLine_eq]
          omega
        · have htl := text_len _ _ (Nat.le_refl _) hf
          have hjl := join_len (Str.ofString ",") ((p :: ps).map text)
          have e3 : (Str.ofString ",").length = 1 := by decide +kernel
          rw [e3, Nat.mul_one] at hjl
          have hsum : (((p :: ps).map text).map (·.length)).sum + ((p :: ps).map text).length ≤ 26000 := by
            rw [List.map_map, List.length_map, ← succ_sum]
            have hs : ((p :: ps).map fun q => (text q).length + 1).sum ≤ ((p :: ps).map fun q => 13 * sz q).sum := sum_map_le fun q hq => text_len _ q (Nat.le_refl _) (fine_mem hf (List.mem_cons_of_mem _ hq))
            have e5 : ((p :: ps).map fun q => 13 * sz q).sum = 13 * ((p :: ps).map sz).sum := by
              rw [← sum_mul, List.map_map]
              rfl
            rw [sz_t, List.map_cons, List.sum_cons] at hz
            have := sz_pos (.s y)
            omega
          refine ⟨_, D, (p :: ps).map text, rfl, rfl, .inl (SqL.of (by rw [eD, List.map_map]; rfl)), by rw [e3, Nat.mul_one]; omega, _, _, rfl, rfl, ?_, _, _, rfl, rfl, ?_, ?_⟩
          · rw [app_len, lp, sizeLine_eq]
            omega
          · rw [app_len, app_len, lp, rp, sizeLine_eq]
            omega
          · have q1 := k' H' sm
            rw [text_more] at q1
            exact q1
theorem scLPts : FnScope nTP ["_law_tree"] (defScope sLPts) := ⟨rfl, rfl, rfl, by decide +kernel, rfl, by decide +kernel, by decide +kernel⟩
theorem ok_lpts {f : Addr} {fd : FuncData} {n : Nat} (F : Fun K "_law_points" "_law_points" sLPts f fd) (IH : Df P w K mg base C8.CX0 "_law_points" n ["_law_tree"] (sp1 K n fun g => .int (points g))) (T : Ct mg) :
    FnOk P w K mg base C8.CX0 (n + 1) f fd ["_law_tree"] (sp1 K (n + 1) fun g => .int (points g)) := by
  refine F.ok scLPts (fun vs H Q E h => ?_) (fun cdv A outer s H vs Q E hr h => ?_)
  · obtain ⟨v, g, rfl, _⟩ := h
    rfl
  · obtain ⟨v, g, rfl, hin, hs, hf, hd, hz, k⟩ := h
    refine ⟨_, pss_cons (ps_if (pt_val (pe_callB call_isi (by rfl) T.isi boot_isinstance (pa_cons (pv 0) (pa_cons (pe_bltn (v := .ty "str") (by rfl) T.str boot_str rfl) pa_nil)))) (pss_one (ps_ret pe_int)) pss_nil)
      (pss_one (ps_ret (pe_op op_add pe_int (pe_callB (cr_sum rfl) (by rfl) T.sum (by decide +kernel) (pa_cons (pe_lc (own := [("_law_part", 1)]) (g := gName 1) (tt := tYes) rfl scLPts.nd (pi_tup (pe_slice sl_tup (pv 0) (po_some pe_int) po_none)) (blkOk_by (N := nTP) (sc := defScope sLPts) (by decide +kernel)) (fun _ _ _ _ _ => pg_name (i := 1) scLPts.nd rfl (Or.inl rfl)) (fun _ _ _ _ _ => pts_nil)
        (fun _ _ _ _ _ => pe_df IH hr pass0 (pa_cons (pv 1) pa_nil) (Nat.le_refl _))) pa_nil))))), ?_⟩
    obtain ⟨d, t1, t2⟩ := isi_str hin
    refine ⟨_, rfl, _, _, _, _, _, rfl, .ty "str", t1, t2, _, rfl, ?_⟩
    have k' : ∀ H', Same H H' → Q (.int (points g)) H' := k
    rcases shp_cases hs with ⟨x, rfl⟩ | ⟨y, ps, rfl, hp⟩
    · refine iteT ?_
      have q1 := k' H (Same.refl H)
      rw [show points (.s x) = 1 by simp [points]] at q1
      exact q1
    · refine iteF ?_
      obtain ⟨a, xs, rfl, hx, hg⟩ := hin.tup
      refine ⟨_, rfl, _, rfl, a, xs, rfl, hx, whole_1 (ne_nil hg), fun q hq => ⟨q, rfl, ⟨_, SqT.of upd_same⟩, fun D hD => rd2 hg hp hf hd hz hq hD (fun _ => rfl) (fun _ => rfl) (fun H' sm eD => ⟨D, (ps.map points).map fun n : Nat => (n : Int), rfl, SqL.of (by rw [eD, ints_map]), _, _, rfl, rfl, ?_⟩)⟩⟩
      have q1 := k' H' sm
      rw [points_t] at q1
      rw [int_sum]
      exact q1
theorem scLDeep : FnScope nTP ["_law_tree"] (defScope sLDeep) := ⟨rfl, rfl, rfl, by decide +kernel, rfl, by decide +kernel, by decide +kernel⟩
theorem ok_ldeep {f : Addr} {fd : FuncData} {n : Nat} (F : Fun K "_law_deep" "_law_deep" sLDeep f fd) (IH : Df P w K mg base C8.CX0 "_law_deep" n ["_law_tree"] (sp1 K n fun g => .int (deep g))) (T : Ct mg) :
    FnOk P w K mg base C8.CX0 (n + 1) f fd ["_law_tree"] (sp1 K (n + 1) fun g => .int (deep g)) := by
  refine F.ok scLDeep (fun vs H Q E h => ?_) (fun cdv A outer s H vs Q E hr h => ?_)
  · obtain ⟨v, g, rfl, _⟩ := h
    rfl
  · obtain ⟨v, g, rfl, hin, hs, hf, hd, hz, k⟩ := h
    refine ⟨_, pss_cons (ps_if (pt_val (pe_callB call_isi (by rfl) T.isi boot_isinstance (pa_cons (pv 0) (pa_cons (pe_bltn (v := .ty "str") (by rfl) T.str boot_str rfl) pa_nil)))) (pss_one (ps_ret pe_int)) pss_nil)
      (pss_one (ps_ret (pe_op op_add pe_int (pe_callB (cr_max rfl) (by rfl) T.max (by decide +kernel) (pa_cons (pe_op op_cat (pe_lst (pa_cons pe_int pa_nil)) (pe_lc (own := [("_law_part", 1)]) (g := gName 1) (tt := tYes) rfl scLDeep.nd (pi_tup (pe_slice sl_tup (pv 0) (po_some pe_int) po_none)) (blkOk_by (N := nTP) (sc := defScope sLDeep) (by decide +kernel)) (fun _ _ _ _ _ => pg_name (i := 1) scLDeep.nd rfl (Or.inl rfl)) (fun _ _ _ _ _ => pts_nil)
        (fun _ _ _ _ _ => pe_df IH hr pass0 (pa_cons (pv 1) pa_nil) (Nat.le_refl _)))) pa_nil))))), ?_⟩
    obtain ⟨d, t1, t2⟩ := isi_str hin
    refine ⟨_, rfl, _, _, _, _, _, rfl, .ty "str", t1, t2, _, rfl, ?_⟩
    have k' : ∀ H', Same H H' → Q (.int (deep g)) H' := k
    rcases shp_cases hs with ⟨x, rfl⟩ | ⟨y, ps, rfl, hp⟩
    · refine iteT ?_
      have q1 := k' H (Same.refl H)
      rw [show deep (.s x) = 1 by simp [deep]] at q1
      exact q1
    · refine iteF ?_
      obtain ⟨a, xs, rfl, hx, hg⟩ := hin.tup
      have hsl := sz_len (.s y :: ps)
      refine ⟨(by show 1 ≤ sizeLine; decide), fun l hl => ?_⟩
      have s1 := Same.new (o := .lst [.int 0]) (Same.refl H) hl
      refine ⟨_, rfl, _, rfl, a, xs, rfl, sqt_same s1 hx, whole_1 (ne_nil hg), fun q hq => ⟨q, rfl, ⟨_, SqT.of upd_same⟩, fun D hD => rd2 (hg.same s1) hp hf hd hz hq hD (fun _ => rfl) (fun _ => rfl) (fun H' sm eD => ⟨l, D, _, _, rfl, rfl, sm _ _ upd_same, eD, ?_, fun p hp => ⟨p, ((0 :: ps.map deep).map fun n : Nat => (n : Int)), rfl, SqL.of ?_, ?_, fun m hm hmx => ⟨_, _, rfl, rfl, ?_⟩⟩⟩)⟩⟩
      · rw [List.length_map, sizeLine_eq]
        simp only [List.length_cons, List.length_nil] at hsl ⊢
        omega
      · rw [upd_same, ints_map deep ps, List.map_cons, List.map_cons]
        rfl
      · simp
      · rw [maxl_of hm hmx]
        have e : ((1 : Int) + ((maxl (0 :: ps.map deep) : Nat) : Int)) = ((deep (.t (.s y :: ps)) : Nat) : Int) := by
          rw [deep_t, show maxl (0 :: ps.map deep) = maxl (ps.map deep) from Nat.zero_max _]
          omega
        show Q (.int (1 + ((maxl (0 :: ps.map deep) : Nat) : Int))) _
        rw [e]
        exact k' _ (Same.new (s1.trans sm) hp)
end
end K1
set_option Elab.async false
set_option linter.all false
set_option maxRecDepth 100000
set_option maxHeartbeats 1000000
namespace K1
open PySem PySem.Spec PyProof.Rows L2
open PySem.W (EachIs)
/-- a if c else b, as a test -/
def tIfT (tc ta tb : TT) : TT := fun σ H Q => tc σ H fun c H1 => if c = true then ta σ H1 Q else tb σ H1 Q
theorem pt_ifE {X : Cx} {c a b : Expr} {tc ta tb : TT} {pos : Pos} (hc : PT X c tc) (ha : PT X a ta) (hb : PT X b tb) : PT X (.IfExp c a b pos) (tIfT tc ta tb) := by
  refine ⟨fun pins s σ H Q I h => ?_⟩
  refine PyProof.Rows.isTrue_IfExp (thn (hc.run pins s σ H _ I h) fun d s1 ⟨H1, I1, q1⟩ => ?_)
  cases d with
  | true => exact ha.run pins s1 σ H1 Q I1 q1
  | false => exact hb.run pins s1 σ H1 Q I1 q1
/-- the lines as a list of rows -/
def Lst (K : PySem.W.Frag) (H : Hp) (a : Addr) (L : List Ln) : Prop := ∃ xs, SqL K H a xs ∧ DpAll K H xs (L.map rowD)
theorem Lst.ext {K : PySem.W.Frag} {H H' : Hp} {a : Addr} {L : List Ln} (s : Ext H H') (h : Lst K H a L) : Lst K H' a L := by
  obtain ⟨xs, h1, h2⟩ := h
  exact ⟨xs, s.sql h1, dpr_ext s L h2⟩
theorem Lst.same {K : PySem.W.Frag} {H H' : Hp} {a : Addr} {L : List Ln} (s : Same H H') (h : Lst K H a L) : Lst K H' a L := h.ext (.of s)
theorem dpr_tk {K : PySem.W.Frag} {H H' : Hp} (s : TupK H H') : ∀ {xs : List V} (L : List Ln), DpAll K H xs (L.map rowD) → DpAll K H' xs (L.map rowD)
  | _, [], .nil => .nil
  | _, l :: L, .cons h t => by
    refine .cons ?_ (dpr_tk s L t)
    cases h with
    | tup ht ha =>
      obtain ⟨a1, r, rfl, h1, t1⟩ := one_more ha
      obtain ⟨a2, r, rfl, h2, t2⟩ := one_more t1
      obtain ⟨a3, r, rfl, h3, t3⟩ := one_more t2
      cases no_more t3
      cases h1
      cases h2
      cases h3
      exact .tup (s.sqt ht) (.cons (.str _) (.cons (.str _) (.cons (.int _) .nil)))
theorem dpr_snoc {K : PySem.W.Frag} {H : Hp} {x : V} {l : Ln} : ∀ {xs : List V} {L : List Ln}, DpAll K H xs (L.map rowD) → Dp K H x (rowD l) → DpAll K H (xs ++ [x]) ((L ++ [l]).map rowD)
  | _, [], .nil, h => .cons h .nil
  | _, m :: L, .cons h t, h2 => .cons h (dpr_snoc t h2)
theorem row_at {K : PySem.W.Frag} {H : Hp} {x : V} {l : Ln} (h : Dp K H x (rowD l)) : ∃ b, x = .ref b ∧ SqT K H b [.str l.1, .str l.2.1, .int l.2.2] := by
  obtain ⟨b, vk, vm, rfl, hb, hk, hm⟩ := row_of h
  cases hk
  cases hm
  exact ⟨b, rfl, hb⟩
theorem dpr_at {K : PySem.W.Frag} {H : Hp} {xs : List V} {L : List Ln} {i : Nat} {x : V} (h : DpAll K H xs (L.map rowD)) (hx : xs[i]? = some x) : ∃ l, L[i]? = some l ∧ Dp K H x (rowD l) := by
  obtain ⟨d, hd, hx'⟩ := dpAll_at h hx
  rw [List.getElem?_map] at hd
  cases e : L[i]? with
  | none => rw [e] at hd; cases hd
  | some l =>
    rw [e] at hd
    exact ⟨l, rfl, by rw [show rowD l = d from Option.some.inj hd]; exact hx'⟩
theorem find_head : ∀ (L : List Ln) (x : Str), find L x = (L.filter fun l => decide (l.1 = x)).head?
  | [], x => rfl
  | m :: L, x => by
    unfold find
    by_cases e : m.1 = x
    · rw [if_pos e, List.filter_cons_of_pos (by simpa using e)]
      rfl
    · rw [if_neg e, List.filter_cons_of_neg (by simpa using e), find_head L x]
abbrev sLKinds : Stmt := topS 58
abbrev sLLaid : Stmt := topS 60
abbrev nStands : List Str := ["_law_lines", "_law_matter", "_law_found", "_law_row", "_law_kind", "_law_many", "_law_size", "_law_part"]
def spStands (K : PySem.W.Frag) (n : Nat) : Sp := fun vs H Q _ => ∃ (a : Addr) (L : List Ln) (v : V) (g : G), vs = [.ref a, v] ∧ Lst K H a L ∧ LOk L ∧ In K H v g ∧ fine g = true ∧ dp g ≤ n ∧ sz g ≤ 2000 ∧ ∀ H', Same H H' → Q (.bl (stands L g)) H'
section
variable {P : Program} {w : World} {K : PySem.W.Frag} {mg : Str → Option Value} {base : Heap}
end
end K1
set_option Elab.async false
set_option linter.all false
set_option maxRecDepth 100000
set_option maxHeartbeats 1000000
namespace K1
open PySem PySem.Spec PyProof.Rows L2
open PySem.W (EachIs)
/-- the kinds by their names -/
def kd (L : List Ln) : List (Key × V) := L.map fun l => ((Sum.inr l.1 : Key), V.str l.2.1)
theorem kd_val (x : Str) : ∀ L : List Ln, valV (kd L) (Sum.inr x : Key) = (find L x).map fun l => V.str l.2.1
  | [] => rfl
  | l :: L => by
    have ih := kd_val x L
    unfold kd at ih ⊢
    rw [List.map_cons]
    unfold find
    by_cases e : l.1 = x
    · rw [if_pos e, valV_pos (p := ((Sum.inr l.1 : Key), V.str l.2.1)) (by rw [e])]
      rfl
    · rw [if_neg e, valV_neg (p := ((Sum.inr l.1 : Key), V.str l.2.1)) (fun z => e (Sum.inr.inj z)), ih]
theorem kd_merge : ∀ (M L : List Ln), ((L ++ M).map (·.1)).Nodup → mergeK (kd L) (kd M) = kd (L ++ M)
  | [], L, _ => by
    rw [List.append_nil]
    rfl
  | m :: M, L, h => by
    have e : mergeK (kd L) (kd (m :: M)) = mergeK (putK (kd L) (Sum.inr m.1) (.str m.2.1)) (kd M) := rfl
    have hn : find L m.1 = none := find_none.mpr fun z => by
      rw [List.map_append, List.map_cons, List.nodup_append] at h
      exact h.2.2 _ z _ List.mem_cons_self rfl
    rw [e, putK_new _ (by rw [kd_val, hn]; rfl)]
    have e2 : kd L ++ [((Sum.inr m.1 : Key), V.str m.2.1)] = kd (L ++ [m]) := by
      unfold kd
      rw [List.map_append]
      rfl
    rw [e2, kd_merge M (L ++ [m]) (by rw [List.append_assoc]; exact h), List.append_assoc]
    rfl
/-- names of these signs alone -/
def wfn (L : List Ln) : G → Bool
  | .s _ => true
  | .t (.s h :: ps) => (find L h).isSome && (ps.map (wfn L)).all id
  | _ => false
theorem wfn_t (L : List Ln) (h : Str) (ps : List G) : wfn L (.t (.s h :: ps)) = ((find L h).isSome && ps.all (wfn L)) := by
  rw [wfn, List.all_map]
  rfl
theorem wfn_shp {L : List Ln} (n : Nat) : ∀ g, dp g ≤ n → wfn L g = true → shp g = true := by
  induction n with
  | zero =>
    intro g h
    have := dp_pos g
    omega
  | succ n ih =>
    intro g hd hw
    cases g with
    | s x => simp [shp]
    | o => simp [wfn] at hw
    | l => simp [wfn] at hw
    | t gs =>
      cases gs with
      | nil => simp [wfn] at hw
      | cons h ps =>
        cases h with
        | s x =>
          rw [wfn_t, Bool.and_eq_true, List.all_eq_true] at hw
          exact shp_mk fun p hp => ih p (dp_mem hd (List.mem_cons_of_mem _ hp)) (hw.2 p hp)
        | _ => simp [wfn] at hw
theorem stands_wfn {L : List Ln} (n : Nat) : ∀ g, dp g ≤ n → stands L g = true → wfn L g = true := by
  induction n with
  | zero =>
    intro g h
    have := dp_pos g
    omega
  | succ n ih =>
    intro g hd hs
    cases g with
    | s x => simp [wfn]
    | o => simp [stands] at hs
    | l => simp [stands] at hs
    | t gs =>
      cases gs with
      | nil => simp [stands] at hs
      | cons h ps =>
        obtain ⟨x, l, rfl, hf, hp⟩ := stands_head hs
        rw [wfn_t, hf, List.all_eq_true.mpr fun p hm => ih p (dp_mem hd (List.mem_cons_of_mem _ hm)) (hp p hm)]
        rfl
theorem wfn_laid {L : List Ln} (n : Nat) : ∀ g, dp g ≤ n → wfn L g = true → wfn L (laid L g) = true := by
  induction n with
  | zero =>
    intro g h
    have := dp_pos g
    omega
  | succ n ih =>
    intro g hd hw
    rcases shp_cases (wfn_shp _ g hd hw) with ⟨x, rfl⟩ | ⟨x, ps, rfl, hp⟩
    · rw [laid_s]
      exact hw
    · rw [wfn_t, Bool.and_eq_true, List.all_eq_true] at hw
      rw [laid_t, wfn_t, hw.1, Bool.true_and, List.all_eq_true]
      intro q hq
      rcases arr_mem hq with h1 | ⟨rs, h1, h2⟩
      · obtain ⟨p, hm, rfl⟩ := List.mem_map.mp h1
        exact ih p (dp_mem hd (List.mem_cons_of_mem _ hm)) (hw.2 p hm)
      · obtain ⟨p, hm, e⟩ := List.mem_map.mp h1
        have z := ih p (dp_mem hd (List.mem_cons_of_mem _ hm)) (hw.2 p hm)
        rw [e, wfn_t, Bool.and_eq_true, List.all_eq_true] at z
        exact z.2 q h2
/-- a def with its code object, its promise as ever -/
theorem FunC.okC {P : Program} {w : World} {K : PySem.W.Frag} {mg : Str → Option Value} {base : Heap} {x : Str} {st : Stmt} {f c : Addr} {fd : FuncData} {N ps : List Str} {k : Nat} {sp : Sp} (F : FunC K x st f fd c) (S : FnScope N ps (defScope st)) (len : ∀ vs H Q E, sp vs H Q E → vs.length = ps.length)
    (hbody : ∀ (A : Around) (outer : List Env) (s : Shared) (H : Hp) (vs : List V) (Q : VK) (E : XK), Room k (A.deeper (envOfC x (defScope st) s.heap.objs.size f (.ref c))) → sp vs H Q E →
      ∃ t, PSs (cxOf C8.CX0 P w K mg base N x (defScope st) f (.ref c) A outer s H E).nox (defBody st) t ∧ t { nx := fun _ H' => Q .non H', rt := Q } (L2.start N vs) H) : FnOk P w K mg base C8.CX0 (k + 1) f fd ps sp := by
  obtain ⟨oc, od, kV, doc, pm, an, ct, osl, rfl, lk, hcd⟩ := F.ex
  refine ⟨len, fun A outer s H args us vs Q E hr e0 hb r hsp => LamX.run_ofS lk hcd S hr e0 hb r (len _ _ _ _ hsp) fun hr' => ?_⟩
  obtain ⟨t, h, q⟩ := hbody A outer s H vs Q E hr' hsp
  exact ⟨t, h.nox, q⟩
def qLaid : Str := Str.ofString "_law_laid.<locals>.<lambda>"
def spKinds (K : PySem.W.Frag) : Sp := fun vs H Q _ => ∃ (a : Addr) (L : List Ln), vs = [.ref a] ∧ Lst K H a L ∧ LOk L ∧ (L.map (·.1)).Nodup ∧ ∀ H' p, Same H H' → H' p = some (.dK (kd L)) → Q (.ref p) H'
def spLLaid (K : PySem.W.Frag) (TT : List (Addr × Str)) (n : Nat) : Sp := fun vs H Q _ => ∃ (a : Addr) (L : List Ln) (v : V) (g : G), vs = [.ref a, v] ∧ H a = some (.dK (kd L)) ∧ LOk L ∧ In K H v g ∧ wfn L g = true ∧ fine g = true ∧ dp g ≤ n ∧ sz g ≤ 2000 ∧ LamX.Tabs TT H ∧
  ∀ H' v', Ext H H' → LamX.Tabs TT H' → In K H' v' (laid L g) → Q v' H'
theorem tabs_offL {T : List (Addr × Str)} {H : Hp} {l : Addr} {zs : List V} {o : HO} (h : LamX.Tabs T H) (e : H l = some (.lst zs)) : LamX.Tabs T (upd H l o) := fun p hp => by
  obtain ⟨ps, h1, h2, h3⟩ := h p hp
  have off : ∀ {b : Addr} {u : HO}, H b = some u → (∀ xs, u ≠ .lst xs) → upd H l o b = some u := fun {b u} q n => by
    rw [upd_ne (fun z => by rw [z, e] at q; exact n _ (Option.some.inj q).symm)]
    exact q
  refine ⟨ps, off h1 (by intro _ z; cases z), h2, fun pos cv hc => ?_⟩
  obtain ⟨cc, rfl, q⟩ := h3 pos cv hc
  exact ⟨cc, rfl, off q (by intro _ z; cases z)⟩
section
variable {P : Program} {w : World} {K : PySem.W.Frag} {mg : Str → Option Value} {base : Heap}
theorem scLKinds : FnScope ["_law_lines", "_law_word", "_law_kind", "_law_many"] ["_law_lines"] (defScope sLKinds) := ⟨rfl, rfl, rfl, by decide +kernel, rfl, by decide +kernel, by decide +kernel⟩
theorem ok_lkinds {f : Addr} {fd : FuncData} (F : Fun K "_law_kinds" "_law_kinds" sLKinds f fd) (T : Ct mg) : FnOk P w K mg base C8.CX0 1 f fd ["_law_lines"] (spKinds K) := by
  refine F.ok scLKinds (fun vs H Q E h => ?_) (fun cdv A outer s H vs Q E hr h => ?_)
  · obtain ⟨a, L, rfl, _⟩ := h
    rfl
  · obtain ⟨a, L, rfl, ⟨xs, hx, hd⟩, ok, hn, k⟩ := h
    refine ⟨_, pss_one (ps_ret (pe_callTy (call_dictP rfl) (by rfl) T.dict boot_dict (pa_cons (pe_lc (own := [("_law_word", 1), ("_law_kind", 2), ("_law_many", 3)]) (g := gTup K 3 (gCons (gName 1) (gCons (gName 2) (gCons (gName 3) gNil)))) (tt := tYes) rfl scLKinds.nd (pi_list (pv 0)) (blkOk_by (N := ["_law_lines", "_law_word", "_law_kind", "_law_many"]) (sc := defScope sLKinds) (by decide +kernel))
      (fun _ _ _ _ _ => pg_tup rfl (pgs_cons (pg_name (i := 1) scLKinds.nd rfl (Or.inl rfl)) (pgs_cons (pg_name (i := 2) scLKinds.nd rfl (Or.inl rfl)) (pgs_cons (pg_name (i := 3) scLKinds.nd rfl (Or.inl rfl)) pgs_nil)))) (fun _ _ _ _ _ => pts_nil) (fun _ _ _ _ _ => pe_tup (pa_cons (pv 1) (pa_cons (pv 2) pa_nil)))) pa_nil))), ?_⟩
    have hl : xs.length = L.length := by
      have := dpAll_len hd
      rw [List.length_map] at this
      exact this
    have hL := ok.len
    refine ⟨_, rfl, a, rfl, ⟨_, hx⟩, fun D hD => lc_list (K := K) (a := a) (xs := xs) (fun i H' => Same H H' ∧ ∃ ps : List Addr, ps.length = i ∧ H' D = some (.lst (ps.map V.ref)) ∧ Paired (fun p (kv : Key × V) => SqT K H' p [kV kv.1, kv.2]) ps (kd (L.take i)))
      ⟨Same.new (Same.refl H) hD, [], rfl, upd_same, .nil⟩ (fun i H' _ ⟨s1, _⟩ => s1.seq hx) ?_ ?_⟩
    · rintro i x H' hi ⟨s1, ps, lp, eD, hp⟩
      obtain ⟨l, hli, hld⟩ := dpr_at hd hi
      obtain ⟨b, rfl, hb⟩ := row_at hld
      have hil := (List.getElem?_eq_some_iff.mp hli).1
      refine ⟨b, _, rfl, sqt_same s1 hb, rfl, _, _, rfl, _, _, rfl, _, _, rfl, rfl, rfl, _, rfl, _, rfl, (by show 2 ≤ sizeLine; decide), fun q hq => ?_⟩
      have nD : D ≠ q := ne_of_none eD hq
      have sq := Same.new (o := .tup [.str l.1, .str l.2.1]) (Same.refl H') hq
      refine ⟨_, sq _ _ eD, by rw [List.length_map, lp, sizeLine_eq]; omega, ?_, ps ++ [q], by rw [List.length_append, lp]; rfl, by rw [upd_same, List.map_append]; rfl, ?_⟩
      · exact fun c o e => by
          rw [upd_ne (ne_of_none e hD)]
          exact sq _ _ (s1 c o e)
      · have off : TupK H' (upd (upd H' q (.tup [.str l.1, .str l.2.1])) D (.lst (ps.map V.ref ++ [.ref q]))) := (TupK.of (Ext.of sq)).off (sq _ _ eD)
        have e : kd (L.take (i + 1)) = kd (L.take i) ++ [((Sum.inr l.1 : Key), V.str l.2.1)] := by
          unfold kd
          rw [take_snoc hli, List.map_append]
          rfl
        rw [e]
        have hlast : SqT K (upd (upd H' q (.tup [.str l.1, .str l.2.1])) D (.lst (ps.map V.ref ++ [.ref q]))) q [kV (Sum.inr l.1), V.str l.2.1] := SqT.of (by rw [upd_ne nD.symm, upd_same]; rfl)
        have app : ∀ {ps' : List Addr} {kvs' : List (Key × V)}, Paired (fun p (kv : Key × V) => SqT K H' p [kV kv.1, kv.2]) ps' kvs' → Paired (fun p (kv : Key × V) => SqT K (upd (upd H' q (.tup [.str l.1, .str l.2.1])) D (.lst (ps.map V.ref ++ [.ref q]))) p [kV kv.1, kv.2]) (ps' ++ [q]) (kvs' ++ [((Sum.inr l.1 : Key), V.str l.2.1)]) := by
          intro ps' kvs' h
          induction h with
          | nil => exact .cons hlast .nil
          | cons h _ ih => exact .cons (off.sqt h) ih
        exact app hp
    · rintro H' ⟨s1, ps, lp, eD, hp⟩
      rw [hl, List.take_length] at hp
      refine ⟨D, ps, kd L, rfl, SqL.of eD, hp, fun p hp2 => ?_⟩
      have e : mergeK [] (kd L) = kd L := by
        have := kd_merge L [] (by simpa using hn)
        exact this
      rw [e]
      exact k _ p (Same.new s1 hp2) upd_same
end
end K1
set_option Elab.async false
set_option linter.all false
set_option maxRecDepth 100000
set_option maxHeartbeats 2000000
namespace K1
open PySem PySem.Spec PyProof.Rows L2
open PySem.W (EachIs)
theorem tabs_new {T : List (Addr × Str)} {H : Hp} {p : Addr} {o : HO} (h : LamX.Tabs T H) (hp : H p = none) : LamX.Tabs T (upd H p o) := h.ext (Same.new (Same.refl H) hp)
theorem Ext.new {H H1 : Hp} {p : Addr} {o : HO} (e : Ext H H1) (hp : H1 p = none) : Ext H (upd H1 p o) := e.trans (Ext.of (Same.new (Same.refl H1) hp))
abbrev nLaid : List Str := ["_law_kinds_here", "_law_tree", "_law_inner", "_law_part", "_law_flat", "_law_same"]
section
variable {P : Program} {w : World} {K : PySem.W.Frag} {mg : Str → Option Value} {base : Heap}
theorem scLLaid : FnScope nLaid ["_law_kinds_here", "_law_tree"] (defScope sLLaid) := ⟨rfl, rfl, rfl, by decide +kernel, rfl, by decide +kernel, by decide +kernel⟩
theorem ok_llaid {f cc PL : Addr} {fd : FuncData} {TT : List (Addr × Str)} {n N m q : Nat} (F : FunC K "_law_laid" sLLaid f fd cc) (IH : Df P w K mg base C8.CX0 "_law_laid" m ["_law_kinds_here", "_law_tree"] (spLLaid K TT n)) (DT : Df P w K mg base C8.CX0 "_law_text" q ["_law_tree"] (sp1 K N fun g => .str (text g))) (T : Ct mg) (hN : n ≤ N) (hN2 : N ≤ 2000) (hm : q + 3 ≤ m)
    (TB : LamX.TabB base mg cc PL) (hT : (PL, qLaid) ∈ TT) (hTu : ∀ p ∈ TT, p.1 = PL → p.2 = qLaid) : FnOk P w K mg base C8.CX0 (m + 1) f fd ["_law_kinds_here", "_law_tree"] (spLLaid K TT (n + 1)) := by
  refine F.okC scLLaid (fun vs H Q E h => ?_) (fun A outer s H vs Q E hr h => ?_)
  · obtain ⟨a, L, v, g, rfl, _⟩ := h
    rfl
  · obtain ⟨ka, L, v, g, rfl, hka, ok, hin, hw, hf, hd, hz, hTab, k⟩ := h
    have hu' := hu_of hr
    refine ⟨_, pss_cons (ps_if (pt_val (pe_callB call_isi (by rfl) T.isi boot_isinstance (pa_cons (pv 1) (pa_cons (pe_bltn (v := .ty "str") (by rfl) T.str boot_str rfl) pa_nil)))) (pss_one (ps_ret (pv 1))) pss_nil)
      (pss_cons (ps_setLc (i := 2) (own := [("_law_part", 3)]) (g := gName 3) (tt := tYes) rfl scLLaid.nd rfl rfl (sw_true rfl rfl rfl (by decide +kernel)) (pi_tup (pe_slice sl_tup (pv 1) (po_some pe_int) po_none)) (blkOk_by (N := nLaid) (sc := defScope sLLaid) (by decide +kernel)) (fun _ _ _ _ _ => pg_name (i := 3) scLLaid.nd rfl (Or.inl rfl)) (fun _ _ _ _ _ => pts_nil)
        (fun _ _ _ _ _ => pe_df IH hr pass0 (pa_cons (pv 0) (pa_cons (pv 3) pa_nil)) (Nat.le_refl _)))
      (C8.pss_cut (ps_if (pt_cmpR (op_inT (units65 hr)) (pe_dget hu' (pv 0) (pe_ix ix_tup (pv 1) pe_int (fun _ _ => rfl)) (fun _ _ => rfl)) (pe_tup (pa_cons pe_str (pa_cons pe_str pa_nil))) (by rfl))
        (pss_cons (ps_set (i := 4) scLLaid.nd rfl (Or.inl rfl) (pe_lst pa_nil))
        (pss_cons (ps_for PassesOwn.never rfl (pi_list (pv 2)) (pg_name (i := 3) scLLaid.nd rfl (Or.inl rfl))
          (pss_cons (ps_set (i := 5) scLLaid.nd rfl (Or.inl rfl) (pe_and (pe_not (pe_callB call_isi (by rfl) T.isi boot_isinstance (pa_cons (pv 3) (pa_cons (pe_bltn (v := .ty "str") (by rfl) T.str boot_str rfl) pa_nil)))) (pe_one (pe_cmpR op_eq (pe_ix ix_tup (pv 3) pe_int (fun _ _ => rfl)) (pe_ix ix_tup (pv 1) pe_int (fun _ _ => rfl)) (nomark _)))))
          (pss_one (ps_set (i := 4) scLLaid.nd rfl (Or.inl rfl) (pe_op op_cat (pv 4) (pe_ifExp (pt_val (pv 5)) (pe_callTy call_list_of (by rfl) T.list boot_list (pa_cons (pe_slice sl_tup (pv 3) (po_some pe_int) po_none) pa_nil)) (pe_lst (pa_cons (pv 3) pa_nil))))))))
        (pss_one (ps_set (i := 2) scLLaid.nd rfl (Or.inl rfl) (pv 4))))) pss_nil)
      (C8.pss_cut (ps_if (pt_cmpR (op_inT (units65 hr)) (pe_dget hu' (pv 0) (pe_ix ix_tup (pv 1) pe_int (fun _ _ => rfl)) (fun _ _ => rfl)) (pe_tup (pa_cons pe_str (pa_cons pe_str pa_nil))) (by rfl))
        (pss_one (ps_set (i := 2) scLLaid.nd rfl (Or.inl rfl) (SrtF.pe_sortL (T := G) (a := "_law_part") (k := q) (tb := tCall (sp1 K N fun g => .str (text g)) [] C8.E0 (tCons (tVar 0) tNil)) (by rfl) T.sorted (pa_cons (pv 2) pa_nil) TB rfl hT hTu (hr.mono hm) rfl
            ⟨by rfl, by rfl, by rfl, by decide +kernel, by rfl, by decide +kernel, by decide +kernel⟩ rfl rfl (fun _ _ _ _ _ _ => by rfl)
            (fun A' outer' s' H' f' c' hr' => pe_df DT hr' pass0 (pa_cons (pe_var (i := 0) rfl (.inl rfl)) pa_nil) (Nat.le_refl _))))) pss_nil)
      (pss_one (ps_ret (pe_op op_catT (pe_tup (pa_cons (pe_ix ix_tup (pv 1) pe_int (fun _ _ => rfl)) pa_nil)) (pe_callTy call_tuple_of (by rfl) T.tuple boot_tuple (pa_cons (pv 2) pa_nil)))))))), ?_⟩
    obtain ⟨d, t1, t2⟩ := isi_str hin
    refine ⟨_, rfl, _, _, _, _, _, rfl, .ty "str", t1, t2, _, rfl, ?_⟩
    have hs := wfn_shp (dp g) g (Nat.le_refl _) hw
    rcases shp_cases hs with ⟨x, rfl⟩ | ⟨y, ps, rfl, hp⟩
    · exact iteT ⟨v, rfl, k H v (Ext.refl H) hTab (by rw [laid_s]; exact hin)⟩
    · refine iteF ?_
      obtain ⟨a, xs, rfl, hx, hg⟩ := hin.tup
      obtain ⟨v0, e0, h0⟩ := hg.get (i := 0) rfl
      obtain rfl := h0.str
      have hw' := hw
      rw [wfn_t, Bool.and_eq_true, List.all_eq_true] at hw'
      obtain ⟨l, hfi⟩ := Option.isSome_iff_exists.mp hw'.1
      obtain ⟨m1, m2⟩ := find_mem hfi
      obtain ⟨sk, _, _, _⟩ := kinds_ok _ (ok.kd l m1)
      have hlen := hg.len
      have hsl := sz_len (.s y :: ps)
      refine ⟨_, rfl, _, rfl, a, xs, rfl, hx, whole_1 (ne_nil hg), fun q0 hq => ⟨q0, rfl, ⟨_, SqT.of upd_same⟩, fun D hD => ?_⟩⟩
      have sq := Same.new (o := .tup (cutV xs (some 1) none)) (Same.refl H) hq
      have hgd : InL K (upd H q0 (.tup (cutV xs (some 1) none))) (cutV xs (some 1) none) ps := by
        have z := (hg.drop 1).same sq
        rw [← cut_1] at z
        exact z
      have hPl := parts_of (L := L) hp hf hd hz
      refine lc_in (K := K) (gs := ps) (J := LamX.Tabs TT) (fun H y g => wfn L g = true → fine g = true → In K H y (laid L g)) hD (SqT.of upd_same) hgd ?_ (fun y g H H' h tk h1 h2 => in_tk tk _ _ (laid_less (dp g) g (Nat.le_refl _) (wfn_shp _ g (Nat.le_refl _) h1) h2).shp (h h1 h2)) (fun _ => rfl) (fun H ys ys' h e => tabs_offL h e) (tabs_new (tabs_new hTab hq) hD) ?_ ?_
      · rw [hgd.len]
        simp only [List.length_cons] at hsl
        omega
      · intro x g H' hgm hxin e hjj Q' q'
        have hgm' : g ∈ .s y :: ps := List.mem_cons_of_mem _ hgm
        exact ⟨_, rfl, x, rfl, ka, L, x, g, rfl, e _ _ (sq _ _ hka) (by intro _ z; cases z), ok, hxin, hw'.2 g hgm, fine_mem hf hgm', dp_mem hd hgm', by have := sz_mem hgm'; omega, hjj, fun H'' v' e'' t'' hv' => q' _ _ e'' t'' fun _ _ => hv'⟩
      · intro H1 ys e hj1 eD hr'
        have sA : Ext H H1 := (Ext.of sq).trans e
        have hys : InL K H1 ys (ps.map (laid L)) := each_in (each_fine (P := fun g => wfn L g = true) (R := fun g => fine g = true) hr' hw'.2 fun g hg => fine_mem hf (List.mem_cons_of_mem _ hg))
        have dget : ∀ {H' : Hp}, Ext H H' → DGet H' ka (.str y) (some (.str l.2.1)) := fun {H'} e' => by
          have e2 : valV (kd L) (Sum.inr y : Key) = some (.str l.2.1) := by rw [kd_val, hfi]; rfl
          rw [← e2]
          exact DGet.k (k := Sum.inr y) (e' _ _ hka (by intro _ z; cases z))
        refine ⟨fun σ' H2 => ∃ (l2 : Addr) (us : List V) (v3 v4 v5 : Option V), σ' = [some (.ref ka), some (.ref a), some (.ref l2), v3, v4, v5] ∧ Ext H H2 ∧ LamX.Tabs TT H2 ∧ SqL K H2 l2 us ∧ InL K H2 us (opn l.2.1 y (ps.map (laid L))), ?_, ?_⟩
        · refine ⟨_, rfl, _, rfl, a, xs, 0, _, rfl, rfl, sA.sqt hx, atI_nat (j := 0) e0, ka, _, rfl, dget sA, (by show 2 ≤ sizeLine; decide), fun r hr0 => ⟨.str l.2.1, [.str "row", .str "heap"], .str _, .tup (SqT.of upd_same) (.cons (.str _) (.cons (.str _) .nil)), sk, by decide +kernel, _, rfl, ?_⟩⟩
          have s1 := Same.new (o := .tup [.str "row", .str "heap"]) (Same.refl H1) hr0
          refine ite2 (fun h2 => ?_) (fun h2 => ?_)
          · have h2' : rowish l.2.1 = true := h2
            refine ⟨(by show 0 ≤ sizeLine; decide), fun F0 hF0 => ?_⟩
            have s2 := Same.new (o := .lst []) s1 hF0
            have eD2 := s2 _ _ eD
            refine ⟨_, rfl, D, rfl, ⟨_, SqL.of eD2⟩, for_list (K := K) (a := D) (xs := ys) (fun i σ' H' => ∃ (Fi : Addr) (zs : List V) (v3 v5 : Option V), σ' = [some (.ref ka), some (.ref a), some (.ref D), v3, some (.ref Fi), v5] ∧ Same H1 H' ∧ H' Fi = some (.lst zs) ∧ InL K H' zs (flat y ((ps.map (laid L)).take i)))
              ⟨F0, [], none, none, rfl, s2, upd_same, by simp only [List.take_zero]; exact .nil⟩ (fun i σ' H' _ ⟨_, _, _, _, _, sm, _⟩ => SqL.of (sm _ _ eD)) ?_ ?_⟩
            · rintro i z σ' H' hi ⟨Fi, zs, v3, v5, rfl, sm, eF, hzs⟩
              obtain ⟨g, hgi, hzin⟩ := hys.at hi
              have hgm := List.mem_of_getElem? hgi
              have hin' := hzin.same sm
              have hlz := hzs.len
              have hfl := flat_len (x := y) (hPl.take i)
              have hfl2 := flat_len (x := y) (hPl.take (i + 1))
              rw [take_snoc hgi, flat_snoc, List.length_append] at hfl2
              have hx' := (sA.trans (Ext.of sm)).sqt hx
              obtain ⟨d', t1', t2'⟩ := isi_str hin'
              -- what is put behind
              have put : ∀ (w5 : V) (H2 : Hp) (b : Addr) (us : List V), Same H' H2 → H2 b = some (.lst us) → InL K H2 us (oneP y g) → ∃ l b' xs' zs', V.ref Fi = V.ref l ∧ V.ref b = V.ref b' ∧ H2 l = some (.lst xs') ∧ H2 b' = some (.lst zs') ∧ xs'.length + zs'.length ≤ sizeLine ∧ ∀ p, H2 p = none →
                  ∃ (Fi : Addr) (zs : List V) (v3 v5 : Option V), [some (V.ref ka), some (V.ref a), some (V.ref D), some z, some (V.ref p), some w5] = [some (.ref ka), some (.ref a), some (.ref D), v3, some (.ref Fi), v5] ∧ Same H1 (upd H2 p (.lst (xs' ++ zs'))) ∧ (upd H2 p (.lst (xs' ++ zs'))) Fi = some (.lst zs) ∧ InL K (upd H2 p (.lst (xs' ++ zs'))) zs (flat y ((ps.map (laid L)).take (i + 1))) := by
                intro w5 H2 b us s3 eb hus
                have hul := hus.len
                refine ⟨Fi, b, zs, us, rfl, rfl, s3 _ _ eF, eb, by rw [hlz, hul, sizeLine_eq]; omega, fun p hp => ⟨p, zs ++ us, some z, some w5, rfl, Same.new (sm.trans s3) hp, upd_same, ?_⟩⟩
                rw [take_snoc hgi, flat_snoc]
                exact ((hzs.same s3).app hus).same (Same.new (Same.refl H2) hp)
              refine ⟨_, rfl, _, _, _, _, _, rfl, .ty "str", t1', t2', _, rfl, _, rfl, ?_⟩
              have one : ∀ (w5 : V), oneP y g = [g] → ∀ b, H' b = none → ∃ l b' xs' zs', V.ref Fi = V.ref l ∧ V.ref b = V.ref b' ∧ (upd H' b (.lst [z])) l = some (.lst xs') ∧ (upd H' b (.lst [z])) b' = some (.lst zs') ∧ xs'.length + zs'.length ≤ sizeLine ∧ ∀ p, (upd H' b (.lst [z])) p = none →
                  ∃ (Fi : Addr) (zs : List V) (v3 v5 : Option V), [some (V.ref ka), some (V.ref a), some (V.ref D), some z, some (V.ref p), some w5] = [some (.ref ka), some (.ref a), some (.ref D), v3, some (.ref Fi), v5] ∧ Same H1 (upd (upd H' b (.lst [z])) p (.lst (xs' ++ zs'))) ∧ (upd (upd H' b (.lst [z])) p (.lst (xs' ++ zs'))) Fi = some (.lst zs) ∧ InL K (upd (upd H' b (.lst [z])) p (.lst (xs' ++ zs'))) zs (flat y ((ps.map (laid L)).take (i + 1))) := fun w5 e1 b hb => by
                have s3 := Same.new (o := .lst [z]) (Same.refl H') hb
                exact put w5 _ b [z] s3 upd_same (by rw [e1]; exact .cons (hin'.same s3) .nil)
              rcases shp_cases (hPl.shp g hgm) with ⟨x2, rfl⟩ | ⟨y2, qs, rfl, hqs⟩
              · refine iteF ⟨_, rfl, _, rfl, _, rfl, ?_⟩
                exact iteF ⟨_, rfl, (by show 1 ≤ sizeLine; decide), fun b hb => one _ rfl b hb⟩
              · refine iteT ?_
                obtain ⟨b2, us2, rfl, hb2, hgb2⟩ := hin'.tup
                obtain ⟨v2, e2, h2v⟩ := hgb2.get (i := 0) rfl
                obtain rfl := h2v.str
                refine ⟨_, rfl, b2, us2, 0, _, rfl, rfl, hb2, atI_nat (j := 0) e2, _, rfl, a, xs, 0, _, rfl, rfl, hx', atI_nat (j := 0) e0, rfl, _, rfl, _, rfl, _, rfl, ?_⟩
                refine ite2 (fun h3 => ?_) (fun h3 => ?_)
                · have h3' : y2 = y := V.str.inj (of_decide_eq_true h3)
                  subst h3'
                  refine ⟨_, rfl, _, rfl, b2, us2, rfl, hb2, whole_1 (ne_nil hgb2), fun r2 hr2 => ⟨r2, _, rfl, .inr (SqT.of upd_same), fun b hb => ?_⟩⟩
                  have s3 := Same.new (o := .tup (cutV us2 (some 1) none)) (Same.refl H') hr2
                  have s4 := Same.new (o := .lst (cutV us2 (some 1) none)) s3 hb
                  have e1 : oneP y2 (.t (.s y2 :: qs)) = qs := by simp [oneP]
                  refine put _ _ b _ s4 upd_same ?_
                  have z := (hgb2.drop 1).same s4
                  rw [← cut_1] at z
                  rw [e1]
                  exact z
                · have h3' : y2 ≠ y := fun z => h3 (by rw [z]; exact decide_eq_true rfl)
                  exact ⟨_, rfl, (by show 1 ≤ sizeLine; decide), fun b hb => one _ (by simp [oneP, h3']) b hb⟩
            · rintro σ' H' ⟨Fi, zs, v3, v5, rfl, sm, eF, hzs⟩
              rw [hys.len, List.take_length] at hzs
              refine ⟨_, rfl, Fi, zs, _, _, _, rfl, sA.trans (Ext.of sm), hj1.ext sm, SqL.of eF, ?_⟩
              unfold opn
              rw [if_pos h2']
              exact hzs
          · refine ⟨D, ys, _, _, _, rfl, sA.trans (Ext.of s1), hj1.ext s1, SqL.of (s1 _ _ eD), ?_⟩
            unfold opn
            rw [if_neg (show ¬ rowish l.2.1 = true from h2)]
            exact hys.same s1
        · rintro σ' H2 ⟨l2, us, v3, v4, v5, rfl, sB, hT2, hl2, hus⟩
          have hP2 := hPl.opn l.2.1 y
          refine ⟨fun σ' H3 => ∃ (l3 : Addr) (us : List V) (v3 v4 v5 : Option V), σ' = [some (.ref ka), some (.ref a), some (.ref l3), v3, v4, v5] ∧ Ext H H3 ∧ LamX.Tabs TT H3 ∧ SqL K H3 l3 us ∧ InL K H3 us (arr l.2.1 y (ps.map (laid L))), ?_, ?_⟩
          · refine ⟨_, rfl, _, rfl, a, xs, 0, _, rfl, rfl, sB.sqt hx, atI_nat (j := 0) e0, ka, _, rfl, dget sB, (by show 2 ≤ sizeLine; decide), fun r hr0 => ⟨.str l.2.1, [.str "pair", .str "heap"], .str _, .tup (SqT.of upd_same) (.cons (.str _) (.cons (.str _) .nil)), sk, by decide +kernel, _, rfl, ?_⟩⟩
            have s1 := Same.new (o := .tup [.str "pair", .str "heap"]) (Same.refl H2) hr0
            refine ite2 (fun h2 => ?_) (fun h2 => ?_)
            · have h2' : loose l.2.1 = true := h2
              refine ⟨_, rfl, hT2.ext s1, fun H3 eN T3 => ?_⟩
              have eN' : Ext H2 H3 := (Ext.of s1).trans eN
              obtain ⟨⟨z1, z2⟩, z3⟩ := zip_in (hus.ext eN')
              refine ⟨l2, us.zip (opn l.2.1 y (ps.map (laid L))), text, rfl, by rw [z1]; exact eN'.sql hl2, fun pr hpr H' sm => ?_, fun p3 H' sm hp3 => ?_⟩
              · obtain ⟨a1, a2⟩ := z3 pr hpr
                exact ⟨_, rfl, _, _, rfl, a1.same sm, hP2.shp _ a2, hP2.fine _ a2, Nat.le_trans (hP2.dp _ a2) hN, hP2.one a2, fun H'' s'' => ⟨rfl, s''⟩⟩
              · have sN := Same.new (o := .lst (((us.zip (opn l.2.1 y (ps.map (laid L)))).mergeSort (SrtF.leK fun p => text p.2)).map Prod.fst)) sm hp3
                refine ⟨p3, _, _, _, _, rfl, (sB.trans eN').trans (Ext.of sN), T3.ext sN, SqL.of upd_same, ?_⟩
                unfold arr
                rw [if_pos h2']
                have := sort_pairs (K := K) fun pr hpr => ((z3 pr hpr).1.same sN)
                rw [z2] at this
                exact this
            · refine ⟨l2, us, _, _, _, rfl, sB.trans (Ext.of s1), hT2.ext s1, s1.seq hl2, ?_⟩
              unfold arr
              rw [if_neg (show ¬ loose l.2.1 = true from h2)]
              exact hus.same s1
          · rintro σ' H3 ⟨l3, us3, w3, w4, w5, rfl, sC, hT3, hl3, hus3⟩
            have hul := hus3.len
            have hal : (arr l.2.1 y (ps.map (laid L))).length ≤ 2000 := by
              rw [(arr_perm l.2.1 y (ps.map (laid L))).length_eq]
              exact hP2.len
            refine ⟨_, rfl, a, xs, 0, _, rfl, rfl, sC.sqt hx, atI_nat (j := 0) e0, (by show 1 ≤ sizeLine; decide), fun t ht => ?_⟩
            have s1 := Same.new (o := .tup [.str y]) (Same.refl H3) ht
            refine ⟨_, rfl, l3, us3, rfl, .inl ⟨s1.seq hl3, fun u hu => ?_⟩⟩
            have s2 := Same.new (o := .tup us3) s1 hu
            have nt : t ≠ u := fun z => by rw [← z, upd_same] at hu; cases hu
            have fin : ∀ (H4 : Hp) (v : V), Same H3 H4 → In K H4 v (.t (.s y :: arr l.2.1 y (ps.map (laid L)))) → Q v H4 := fun H4 v sm hv => k H4 v (sC.trans (Ext.of sm)) (hT3.ext sm) (by rw [laid_t, kindOf_find hfi]; exact hv)
            refine ⟨t, u, [.str y], us3, rfl, rfl, SqT.of (by rw [upd_ne nt, upd_same]), SqT.of upd_same, by simp, by simp only [List.length_cons, List.length_nil]; rw [sizeLine_eq]; omega, fun e => ?_, fun e p hp => ?_⟩
            · refine fin _ _ s2 (.t (xs := [.str y]) (SqT.of (by rw [upd_ne nt, upd_same])) ?_)
              have ea : arr l.2.1 y (ps.map (laid L)) = [] := List.eq_nil_of_length_eq_zero (by rw [← hul, e]; rfl)
              rw [ea]
              exact .cons (.s y) .nil
            · exact fin _ _ (Same.new s2 hp) (.t (SqT.of upd_same) (.cons (.s y) (hus3.same (Same.new s2 hp))))
end
end K1
set_option Elab.async false
set_option linter.all false
set_option maxRecDepth 100000
set_option maxHeartbeats 2000000
namespace K1
open PySem PySem.Spec PyProof.Rows L2
open PySem.W (EachIs)
def due (L : List Ln) (g : G) : Bool := stands L g && (decide (points g ≤ 80) && (decide (deep g ≤ 12) && few (laid L g)))
theorem few_wide (n : Nat) : ∀ g, dp g ≤ n → shp g = true → few g = decide (wide g ≤ 8) := by
  induction n with
  | zero =>
    intro g h
    have := dp_pos g
    omega
  | succ n ih =>
    intro g hd hs
    rcases shp_cases hs with ⟨x, rfl⟩ | ⟨x, ps, rfl, hp⟩
    · simp [few, wide]
    · rw [few_t, wide_t]
      have key : ps.all few = decide (maxl (ps.map wide) ≤ 8) := by
        rw [Bool.eq_iff_iff, List.all_eq_true, decide_eq_true_iff, maxl_le]
        constructor
        · intro h m hm
          obtain ⟨p, hpm, rfl⟩ := List.mem_map.mp hm
          have := h p hpm
          rw [ih p (dp_mem hd (List.mem_cons_of_mem _ hpm)) (hp p hpm), decide_eq_true_iff] at this
          exact this
        · intro h p hpm
          rw [ih p (dp_mem hd (List.mem_cons_of_mem _ hpm)) (hp p hpm), decide_eq_true_iff]
          exact h _ (List.mem_map.mpr ⟨p, hpm, rfl⟩)
      rw [key, Bool.eq_iff_iff, Bool.and_eq_true, decide_eq_true_iff, decide_eq_true_iff, decide_eq_true_iff, Nat.max_le]
      omega
theorem due_is {L : List Ln} {g : G} (hf : fine g = true) : due L g = lay0 L g := by
  unfold due lay0
  cases q : stands L g with
  | false => rfl
  | true =>
    obtain ⟨hs, hdd⟩ := stands_shp (dp g) g (Nat.le_refl _) q
    have hL := laid_less (L := L) (dp g) g (Nat.le_refl _) hs hf
    by_cases q1 : points g ≤ 80
    · by_cases q2 : deep g ≤ 12
      · rw [decide_eq_true q1, decide_eq_true q2, few_wide _ _ (Nat.le_refl _) hL.shp]
        have h1 := hL.pts
        have h2 := hL.deep
        unfold beyond
        rw [decide_eq_false (show ¬ 80 < points (laid L g) by omega), decide_eq_false (show ¬ 12 < deep (laid L g) by omega)]
        by_cases h3 : wide (laid L g) ≤ 8
        · rw [decide_eq_true h3, decide_eq_false (by omega)]
          rfl
        · rw [decide_eq_false h3, decide_eq_true (by omega)]
          rfl
      · rw [decide_eq_false q2, Bool.false_and, Bool.false_and]
    · rw [decide_eq_false q1, Bool.false_and, Bool.false_and]
def spLDraft (K : PySem.W.Frag) (TT : List (Addr × Str)) (n : Nat) : Sp := fun vs H Q _ => ∃ (a : Addr) (L : List Ln) (v : V) (g : G), vs = [.ref a, v] ∧ Lst K H a L ∧ LOk L ∧ (L.map (·.1)).Nodup ∧ In K H v g ∧ fine g = true ∧ dp g ≤ n ∧ sz g ≤ 2000 ∧ LamX.Tabs TT H ∧
  ∀ H', Ext H H' → LamX.Tabs TT H' → Q (.bl (due L g)) H'
section
variable {P : Program} {w : World} {K : PySem.W.Frag} {mg : Str → Option Value} {base : Heap}
end
end K1
set_option Elab.async false
set_option linter.all false
set_option maxRecDepth 100000
set_option maxHeartbeats 1000000
namespace K1
open PySem PySem.Spec PyProof.Rows L2
open PySem.W (EachIs)
abbrev oP : Str := Str.ofString "("
abbrev cP : Str := Str.ofString ")"
abbrev cm : Str := Str.ofString ","
def isMk (x : Str) : Bool := decide (x ∈ [oP, cP, cm])
def ch (c : Nat) : Str := ⟨#[c]⟩
theorem ch_l (c : Nat) : (ch c).cps.toList = [c] := rfl
def sepT : List (List Str) → List Str
  | [] => []
  | [a] => a
  | a :: b :: r => a ++ cm :: sepT (b :: r)
/-- the words of a thing's text -/
def toks : G → List Str
  | .s x => [x]
  | .t (h :: ps) => if ps.isEmpty then [hd h] else hd h :: oP :: (sepT (ps.map toks) ++ [cP])
  | _ => []
theorem toks_s (x : Str) : toks (.s x) = [x] := by simp only [toks]
theorem toks_1 (h : G) : toks (.t [h]) = [hd h] := by simp [toks]
theorem toks_t (h p : G) (ps : List G) : toks (.t (h :: p :: ps)) = hd h :: oP :: (sepT ((p :: ps).map toks) ++ [cP]) := by rw [toks]; simp
/-- built of names and gaps -/
def gok : G → Bool
  | .s x => gapB x
  | .t (.s h :: ps) => nameB h && (ps.map gok).all id
  | _ => false
theorem gok_t (h : Str) (ps : List G) : gok (.t (.s h :: ps)) = (nameB h && ps.all gok) := by
  rw [gok, List.all_map]
  rfl
def wst (s : List Str × Str) (c : Nat) : List Str × Str := if isMk (ch c) then (s.1 ++ (if s.2 = Str.empty then [ch c] else [s.2, ch c]), Str.empty) else (s.1, s.2 ++ ch c)
def wend (s : List Str × Str) : List Str := if s.2 = Str.empty then s.1 else s.1 ++ [s.2]
def wrun (x : Str) : List Str := wend (x.cps.toList.foldl wst ([], Str.empty))
theorem wst_mark {s : List Str × Str} {c : Nat} (h : isMk (ch c) = true) : wst s c = (wend s ++ [ch c], Str.empty) := by
  unfold wst wend
  rw [if_pos h]
  by_cases e : s.2 = Str.empty
  · rw [if_pos e, if_pos e]
  · rw [if_neg e, if_neg e, List.append_assoc]
    rfl
theorem isMk_cp {c : Nat} : isMk (ch c) = true ↔ c = 40 ∨ c = 41 ∨ c = 44 := by
  have e1 : oP = ch 40 := by decide +kernel
  have e2 : cP = ch 41 := by decide +kernel
  have e3 : cm = ch 44 := by decide +kernel
  have inj : ∀ {a b : Nat}, ch a = ch b ↔ a = b := fun {a b} => ⟨fun e => by
    have := congrArg (fun s : Str => s.cps.toList) e
    simpa [ch] using this, fun e => by rw [e]⟩
  unfold isMk
  rw [decide_eq_true_iff, e1, e2, e3]
  simp [inj]
theorem wst_name : ∀ (cs : List Nat) (ws : List Str) (w : Str), (∀ c ∈ cs, isMk (ch c) = false) → cs.foldl wst (ws, w) = (ws, ⟨(w.cps.toList ++ cs).toArray⟩)
  | [], ws, w, _ => by simp
  | c :: cs, ws, w, h => by
    rw [List.foldl_cons]
    have h1 : wst (ws, w) c = (ws, w ++ ch c) := by
      unfold wst
      rw [if_neg (by rw [h c List.mem_cons_self]; exact Bool.false_ne_true)]
    rw [h1, wst_name cs ws _ fun d hd => h d (List.mem_cons_of_mem _ hd), app_l, ch_l, List.append_assoc]
    rfl
theorem name_marks {x : Str} (h : nameB x = true ∨ gapB x = true) : ∀ c ∈ x.cps.toList, isMk (ch c) = false := fun c hc => by
  have key : isLow c = true ∨ c ∈ bigs.cps.toList := by
    rcases h with h | h
    · exact .inl (List.all_eq_true.mp (Bool.and_eq_true_iff.mp h).2 c hc)
    · obtain ⟨h1, h2⟩ := Bool.and_eq_true_iff.mp h
      obtain ⟨h3, h4⟩ := Bool.and_eq_true_iff.mp h2
      cases e : x.cps.toList with
      | nil => rw [e] at hc; cases hc
      | cons a r =>
        rw [e] at hc h3 h4
        rcases List.mem_cons.mp hc with rfl | hc
        · exact .inr (of_decide_eq_true h3)
        · exact .inl (List.all_eq_true.mp h4 c hc)
  have big : ∀ c ∈ bigs.cps.toList, 65 ≤ c := by decide +kernel
  cases q : isMk (ch c) with
  | false => rfl
  | true =>
    have := isMk_cp.mp q
    rcases key with k | k
    · unfold isLow at k
      have := of_decide_eq_true k
      omega
    · have := big c k
      omega
theorem ne_name {x : Str} (h : nameB x = true ∨ gapB x = true) : x ≠ Str.empty := fun e => by
  rw [e] at h
  rcases h with h | h <;> revert h <;> decide +kernel
theorem wst_word {x : Str} (h : nameB x = true ∨ gapB x = true) (ws : List Str) : x.cps.toList.foldl wst (ws, Str.empty) = (ws, x) := by
  rw [wst_name _ _ _ (name_marks h)]
  have : (⟨(Str.empty.cps.toList ++ x.cps.toList).toArray⟩ : Str) = x := ext_l (by simp [Str.empty])
  rw [this]
theorem hd_s (h : Str) : hd (.s h) = h := by simp [hd]
theorem joinS_l (a b : Str) (r : List Str) : (Txt.join cm (a :: b :: r)).cps.toList = a.cps.toList ++ 44 :: (Txt.join cm (b :: r)).cps.toList := by
  rw [show Txt.join cm (a :: b :: r) = Str.join cm (a :: b :: r) from PySem.StrLaws.glued_eq_join _ _, show Txt.join cm (b :: r) = Str.join cm (b :: r) from PySem.StrLaws.glued_eq_join _ _]
  show (a ++ cm ++ Str.join cm (b :: r)).cps.toList = _
  rw [app_l, app_l, show cm.cps.toList = [44] by decide +kernel, List.append_assoc]
  rfl
theorem join1_l (a : Str) : (Txt.join cm [a]).cps.toList = a.cps.toList := by
  rw [show Txt.join cm [a] = Str.join cm [a] from PySem.StrLaws.glued_eq_join _ _]
  rfl
theorem ch40 : ch 40 = oP := by decide +kernel
theorem ch41 : ch 41 = cP := by decide +kernel
theorem ch44 : ch 44 = cm := by decide +kernel
/-- read word by word it comes to these words -/
def Rd1 (x : Str) (ts : List Str) : Prop := ∀ ws : List Str, wend (x.cps.toList.foldl wst (ws, Str.empty)) = ws ++ ts
theorem rd_mark {x : Str} {ts : List Str} (h : Rd1 x ts) (c : Nat) (hc : isMk (ch c) = true) (cs : List Nat) (ws : List Str) : (x.cps.toList ++ c :: cs).foldl wst (ws, Str.empty) = cs.foldl wst (ws ++ ts ++ [ch c], Str.empty) := by
  rw [List.foldl_append, List.foldl_cons, wst_mark hc, h ws]
theorem rd_join : ∀ (gs : List G), gs ≠ [] → (∀ g ∈ gs, Rd1 (text g) (toks g)) → Rd1 (Txt.join cm (gs.map text)) (sepT (gs.map toks))
  | [], h, _ => absurd rfl h
  | [g], _, h => by
    intro ws
    rw [List.map_cons, List.map_nil, join1_l, h g List.mem_cons_self ws]
    rfl
  | g :: p :: gs, _, h => by
    intro ws
    have ih := rd_join (p :: gs) (by simp) fun q hq => h q (List.mem_cons_of_mem _ hq)
    show wend ((Txt.join cm (text g :: text p :: gs.map text)).cps.toList.foldl wst (ws, Str.empty)) = ws ++ (toks g ++ cm :: sepT ((p :: gs).map toks))
    rw [joinS_l, rd_mark (h g List.mem_cons_self) 44 (by decide +kernel), ch44]
    have := ih (ws ++ toks g ++ [cm])
    rw [List.map_cons] at this
    rw [this]
    simp
theorem rd_text (n : Nat) : ∀ g, dp g ≤ n → gok g = true → Rd1 (text g) (toks g) := by
  induction n with
  | zero =>
    intro g h
    have := dp_pos g
    omega
  | succ n ih =>
    intro g hd' hg
    cases g with
    | s x =>
      intro ws
      have hx : nameB x = true ∨ gapB x = true := .inr (by simpa [gok] using hg)
      rw [toks_s, show text (.s x) = x by simp [text], wst_word hx]
      unfold wend
      rw [if_neg (ne_name hx)]
    | l ps => simp [gok] at hg
    | o d => simp [gok] at hg
    | t ps =>
      cases ps with
      | nil => simp [gok] at hg
      | cons h ps =>
        cases h with
        | s x =>
          rw [gok_t, Bool.and_eq_true_iff] at hg
          have hx : nameB x = true ∨ gapB x = true := .inl hg.1
          have hp : ∀ p ∈ ps, Rd1 (text p) (toks p) := fun p hp => ih p (dp_mem hd' (List.mem_cons_of_mem _ hp)) (List.all_eq_true.mp hg.2 p hp)
          cases ps with
          | nil =>
            intro ws
            rw [text_one, toks_1, hd_s, wst_word hx]
            unfold wend
            rw [if_neg (ne_name hx)]
          | cons p ps =>
            intro ws
            have hj := rd_join (p :: ps) (by simp) hp
            rw [text_more, toks_t, hd_s]
            have e : (x ++ Str.ofString "(" ++ Txt.join (Str.ofString ",") ((p :: ps).map text) ++ Str.ofString ")").cps.toList = x.cps.toList ++ 40 :: ((Txt.join cm ((p :: ps).map text)).cps.toList ++ 41 :: []) := by
              rw [app_l, app_l, app_l, show (Str.ofString "(").cps.toList = [40] by decide +kernel, show (Str.ofString ")").cps.toList = [41] by decide +kernel]
              simp
            have hx1 : Rd1 x [x] := fun ws => by
              rw [wst_word hx]
              unfold wend
              rw [if_neg (ne_name hx)]
            rw [e, rd_mark hx1 40 (by decide +kernel), ch40, rd_mark hj 41 (by decide +kernel), ch41, List.foldl_nil]
            simp [wend]
        | _ => simp [gok] at hg
theorem words_text {g : G} (h : gok g = true) : wrun (text g) = toks g := by
  have := rd_text _ g (Nat.le_refl _) h []
  simpa [wrun] using this
theorem stands_gok {L : List Ln} (ok : LOk L) (n : Nat) : ∀ g, dp g ≤ n → stands L g = true → gok g = true := by
  induction n with
  | zero =>
    intro g h
    have := dp_pos g
    omega
  | succ n ih =>
    intro g hd' hg
    cases g with
    | s x => simpa [gok, stands] using hg
    | l ps => simp [stands] at hg
    | o d => simp [stands] at hg
    | t ps =>
      cases ps with
      | nil => simp [stands] at hg
      | cons h ps =>
        rw [stands_t, Bool.and_eq_true_iff] at hg
        cases h with
        | s x =>
          rw [gok_t, Bool.and_eq_true_iff]
          refine ⟨?_, List.all_eq_true.mpr fun p hp => ih p (dp_mem hd' (List.mem_cons_of_mem _ hp)) (List.all_eq_true.mp hg.2 p hp)⟩
          cases hf : find L x with
          | none => simp [hasParts, hf] at hg
          | some l =>
            obtain ⟨h1, h2⟩ := find_mem hf
            rw [← h2]
            exact ok.nm l h1
        | _ => simp [hasParts] at hg
/-- the parser's state: lists that wait, parts, whether a part is wanted -/
structure PSt where
  wait : List (List G)
  parts : List G
  want : Bool
def leafG (x : Str) : G := if gapB x then .s x else .t [.s x]
def pclose (ps made : List G) : Option (List G) := match ps.getLast? with
  | some (.t qs) => some (ps.dropLast ++ [.t (qs ++ made)])
  | _ => none
/-- one word -/
def pst (prev : Option Str) (s : PSt) (x : Str) : Option PSt :=
  if s.want = true ∧ isMk x = false then some ⟨s.wait, s.parts ++ [leafG x], false⟩
  else if x = oP ∧ (∃ y, prev = some y ∧ isMk y = false ∧ gapB y = false) then some ⟨s.wait ++ [s.parts], [], true⟩
  else if x = cm ∧ s.want = false ∧ s.wait ≠ [] then some ⟨s.wait, s.parts, true⟩
  else if x = cP ∧ s.want = false then (match s.wait.getLast? with
    | some ps => (pclose ps s.parts).map fun q => ⟨s.wait.dropLast, q, false⟩
    | none => none)
  else none
end K1
set_option Elab.async false
set_option linter.all false
set_option maxRecDepth 100000
set_option maxHeartbeats 1000000
namespace K1
open PySem PySem.Spec PyProof.Rows L2
open PySem.W (EachIs)
theorem mk_not {x : Str} (h : nameB x = true ∨ gapB x = true) : isMk x = false := by
  cases q : isMk x with
  | false => rfl
  | true =>
    have hm : x = oP ∨ x = cP ∨ x = cm := by
      unfold isMk at q
      simpa using of_decide_eq_true q
    rcases hm with rfl | rfl | rfl <;> rcases h with h | h <;> revert h <;> decide +kernel
theorem name_nogap {x : Str} (h : nameB x = true) : gapB x = false := by
  cases q : gapB x with
  | false => rfl
  | true =>
    obtain ⟨h1, h2⟩ := Bool.and_eq_true_iff.mp q
    obtain ⟨h3, h4⟩ := Bool.and_eq_true_iff.mp h2
    obtain ⟨k1, k2⟩ := Bool.and_eq_true_iff.mp h
    have l1 := (of_decide_eq_true k1).1
    cases e : x.cps.toList with
    | nil =>
      rw [← len_toList, e] at l1
      simp at l1
    | cons a r =>
      rw [e] at h3 k2
      have m := of_decide_eq_true h3
      have lo := List.all_eq_true.mp k2 a List.mem_cons_self
      have big : ∀ c ∈ bigs.cps.toList, c ≤ 90 := by decide +kernel
      have := big a m
      unfold isLow at lo
      have := of_decide_eq_true lo
      omega
theorem leaf_gap {x : Str} (h : gapB x = true) : leafG x = .s x := if_pos h
theorem leaf_name {x : Str} (h : nameB x = true) : leafG x = .t [.s x] := if_neg (by rw [name_nogap h]; exact Bool.false_ne_true)
def pf (a : Option (PSt × Option Str)) (x : Str) : Option (PSt × Option Str) := a.bind fun z => (pst z.2 z.1 x).map fun s => (s, some x)
theorem pf_word {w : List (List G)} {ps : List G} {pv : Option Str} {x : Str} (h : isMk x = false) : pf (some (⟨w, ps, true⟩, pv)) x = some (⟨w, ps ++ [leafG x], false⟩, some x) := by
  show (pst pv ⟨w, ps, true⟩ x).map _ = _
  unfold pst
  rw [if_pos ⟨rfl, h⟩]
  rfl
theorem pf_open {w : List (List G)} {ps : List G} {y : Str} (h : nameB y = true) : pf (some (⟨w, ps, false⟩, some y)) oP = some (⟨w ++ [ps], [], true⟩, some oP) := by
  show (pst (some y) ⟨w, ps, false⟩ oP).map _ = _
  unfold pst
  rw [if_neg (by simp), if_pos ⟨rfl, y, rfl, mk_not (.inl h), name_nogap h⟩]
  rfl
theorem pf_comma {w : List (List G)} {ps : List G} {pv : Option Str} (h : w ≠ []) : pf (some (⟨w, ps, false⟩, pv)) cm = some (⟨w, ps, true⟩, some cm) := by
  show (pst pv ⟨w, ps, false⟩ cm).map _ = _
  unfold pst
  rw [if_neg (by simp), if_neg (fun z => absurd z.1 (by decide +kernel)), if_pos ⟨rfl, rfl, h⟩]
  rfl
theorem pf_close {w : List (List G)} {ps made qs : List G} {pv : Option Str} : pf (some (⟨w ++ [ps ++ [.t qs]], made, false⟩, pv)) cP = some (⟨w, ps ++ [.t (qs ++ made)], false⟩, some cP) := by
  show (pst pv ⟨w ++ [ps ++ [.t qs]], made, false⟩ cP).map _ = _
  unfold pst
  rw [if_neg (by simp), if_neg (fun z => absurd z.1 (by decide +kernel)), if_neg (fun z => absurd z.1 (by decide +kernel)), if_pos ⟨rfl, rfl⟩]
  simp [pclose]
theorem run_j : ∀ (gs : List G), gs ≠ [] → (∀ g ∈ gs, ∀ w ps pv, ∃ y, (toks g).foldl pf (some (⟨w, ps, true⟩, pv)) = some (⟨w, ps ++ [g], false⟩, some y)) → ∀ w ps pv, w ≠ [] → ∃ y, (sepT (gs.map toks)).foldl pf (some (⟨w, ps, true⟩, pv)) = some (⟨w, ps ++ gs, false⟩, some y)
  | [], h, _, _, _, _, _ => absurd rfl h
  | [g], _, h, w, ps, pv, _ => h g List.mem_cons_self w ps pv
  | g :: p :: gs, _, h, w, ps, pv, hw => by
    obtain ⟨y, e⟩ := h g List.mem_cons_self w ps pv
    show ∃ y, (toks g ++ cm :: sepT ((p :: gs).map toks)).foldl pf _ = _
    rw [List.foldl_append, e, List.foldl_cons, pf_comma hw]
    obtain ⟨z, e2⟩ := run_j (p :: gs) (by simp) (fun q hq => h q (List.mem_cons_of_mem _ hq)) w (ps ++ [g]) (some cm) hw
    refine ⟨z, ?_⟩
    rw [e2]
    simp
theorem run_g (n : Nat) : ∀ g, dp g ≤ n → gok g = true → ∀ w ps pv, ∃ y, (toks g).foldl pf (some (⟨w, ps, true⟩, pv)) = some (⟨w, ps ++ [g], false⟩, some y) := by
  induction n with
  | zero =>
    intro g h
    have := dp_pos g
    omega
  | succ n ih =>
    intro g hd' hg w ps pv
    cases g with
    | s x =>
      have hx : gapB x = true := by simpa [gok] using hg
      exact ⟨x, by rw [toks_s, List.foldl_cons, pf_word (mk_not (.inr hx)), leaf_gap hx, List.foldl_nil]⟩
    | l qs => simp [gok] at hg
    | o d => simp [gok] at hg
    | t qs =>
      cases qs with
      | nil => simp [gok] at hg
      | cons h qs =>
        cases h with
        | s x =>
          rw [gok_t, Bool.and_eq_true_iff] at hg
          have hx := mk_not (.inl hg.1)
          have hp : ∀ p ∈ qs, ∀ w ps pv, ∃ y, (toks p).foldl pf (some (⟨w, ps, true⟩, pv)) = some (⟨w, ps ++ [p], false⟩, some y) := fun p hp => ih p (dp_mem hd' (List.mem_cons_of_mem _ hp)) (List.all_eq_true.mp hg.2 p hp)
          cases qs with
          | nil => exact ⟨x, by rw [toks_1, hd_s, List.foldl_cons, pf_word hx, leaf_name hg.1, List.foldl_nil]⟩
          | cons p qs =>
            obtain ⟨y, e⟩ := run_j (p :: qs) (by simp) hp (w ++ [ps ++ [.t [.s x]]]) [] (some oP) (by simp)
            refine ⟨cP, ?_⟩
            rw [toks_t, hd_s, List.foldl_cons, pf_word hx, leaf_name hg.1, List.foldl_cons, pf_open hg.1, List.foldl_append, e, List.foldl_cons, List.nil_append, pf_close, List.foldl_nil]
            rfl
        | _ => simp [gok] at hg
/-- after i words: the parser stands, and the word ahead is the last of these -/
theorem run_take {g : G} (hg : gok g = true) (i : Nat) : ∃ s, ((toks g).take i).foldl pf (some (⟨[], [], true⟩, none)) = some (s, ((toks g).take i).getLast?) := by
  obtain ⟨y, e⟩ := run_g _ g (Nat.le_refl _) hg [] [] none
  have bad : ∀ zs : List Str, zs.foldl pf none = none := fun zs => by
    induction zs with
    | nil => rfl
    | cons z zs ih => exact ih
  have key : ∀ (xs ys : List Str) (a : PSt × Option Str), (xs ++ ys).foldl pf (some a) ≠ none → ∃ s, xs.foldl pf (some a) = some (s, xs.getLast?.or a.2) := fun xs => by
    induction xs with
    | nil => exact fun ys a _ => ⟨a.1, rfl⟩
    | cons x xs ih =>
      intro ys a h
      rw [List.cons_append, List.foldl_cons] at h
      cases q : pst a.2 a.1 x with
      | none =>
        have : pf (some a) x = none := by
          show (pst a.2 a.1 x).map _ = none
          rw [q]
          rfl
        rw [this] at h
        exact absurd (bad _) h
      | some s1 =>
        have e1 : pf (some a) x = some (s1, some x) := by
          show (pst a.2 a.1 x).map _ = _
          rw [q]
          rfl
        rw [e1] at h
        obtain ⟨s, es⟩ := ih ys (s1, some x) h
        refine ⟨s, ?_⟩
        rw [List.foldl_cons, e1, es, List.getLast?_cons]
        cases xs.getLast? <;> rfl
  obtain ⟨s, es⟩ := key ((toks g).take i) ((toks g).drop i) (⟨[], [], true⟩, none) (by rw [List.take_append_drop, e]; simp)
  exact ⟨s, by rw [es]; simp⟩
end K1
set_option Elab.async false
set_option linter.all false
set_option maxRecDepth 100000
set_option maxHeartbeats 1000000
namespace K1
open PySem PySem.Spec PyProof.Rows L2
open PySem.W (EachIs)
theorem leK_is : SrtF.leK text = fun a b => decide ((text a).cps.toList ≤ (text b).cps.toList) := PySem.W.dataLe_str text
theorem sortT_idem (qs : List G) : sortT (sortT qs) = sortT qs := by
  unfold sortT
  refine List.mergeSort_of_pairwise (List.pairwise_mergeSort (fun a b c h1 h2 => ?_) (fun a b => ?_) qs)
  · rw [leK_is] at h1 h2 ⊢
    exact decide_eq_true (List.le_trans (of_decide_eq_true h1) (of_decide_eq_true h2))
  · rw [leK_is]
    rcases List.le_total (text a).cps.toList (text b).cps.toList with h | h
    · simp [h]
    · simp [h]
/-- no part's head is this -/
def noHd (h : Str) (r : G) : Prop := ∀ rs, r ≠ .t (.s h :: rs)
theorem oneP_no {h : Str} {r : G} (n : noHd h r) : oneP h r = [r] := by
  unfold oneP
  split
  · rename_i x rs
    by_cases e : x = h
    · subst e
      exact absurd rfl (n rs)
    · rw [if_neg e]
  · rfl
theorem flat_no {h : Str} : ∀ {rs : List G}, (∀ r ∈ rs, noHd h r) → flat h rs = rs
  | [], _ => rfl
  | r :: rs, n => by
    have := flat_no fun q hq => n q (List.mem_cons_of_mem _ hq)
    unfold flat at this ⊢
    rw [List.flatMap_cons, oneP_no (n r List.mem_cons_self), this]
    rfl
theorem arr_fix {k h : Str} {qs : List G} (n : rowish k = true → ∀ r ∈ arr k h qs, noHd h r) : arr k h (arr k h qs) = arr k h qs := by
  have ho : opn k h (arr k h qs) = arr k h qs := by
    unfold opn
    split
    · next e => exact flat_no (n e)
    · rfl
  have e0 : arr k h (arr k h qs) = if loose k = true then sortT (opn k h (arr k h qs)) else opn k h (arr k h qs) := rfl
  rw [e0, ho]
  by_cases e : loose k = true
  · have e1 : arr k h qs = sortT (opn k h qs) := by unfold arr; rw [if_pos e]
    rw [if_pos e, e1, sortT_idem]
  · rw [if_neg e]
/-- what holds of a laid thing -/
def LdQ (L : List Ln) (x : G) : Prop := laid L x = x ∧ ∀ h rs, x = .t (.s h :: rs) → (∀ r ∈ rs, laid L r = r) ∧ (rowish (kindOf L h) = true → ∀ r ∈ rs, noHd h r)
theorem laid_q (L : List Ln) (n : Nat) : ∀ g, dp g ≤ n → LdQ L (laid L g) := by
  induction n with
  | zero =>
    intro g h
    have := dp_pos g
    omega
  | succ n ih =>
    intro g hd'
    have other : ∀ g : G, (∀ h rs, g ≠ .t (.s h :: rs)) → laid L g = g ∧ LdQ L g := fun g hg => by
      have e : laid L g = g := by
        unfold laid
        split
        · exact absurd rfl (hg _ _)
        · rfl
      exact ⟨e, e, fun h rs z => absurd z (hg h rs)⟩
    by_cases hg : ∃ h ps, g = .t (.s h :: ps)
    · obtain ⟨h, ps, rfl⟩ := hg
      have hq : ∀ q ∈ ps.map (laid L), LdQ L q := fun q hq => by
        obtain ⟨p, hp, rfl⟩ := List.mem_map.mp hq
        exact ih p (dp_mem hd' (List.mem_cons_of_mem _ hp))
      have hfix : ∀ r ∈ arr (kindOf L h) h (ps.map (laid L)), laid L r = r := fun r hr => by
        rcases arr_mem hr with hr | ⟨rs, h1, h2⟩
        · exact (hq r hr).1
        · exact ((hq _ h1).2 h rs rfl).1 r h2
      have hno : rowish (kindOf L h) = true → ∀ r ∈ arr (kindOf L h) h (ps.map (laid L)), noHd h r := fun hrow r hr => by
        have hr2 : r ∈ opn (kindOf L h) h (ps.map (laid L)) := (arr_perm _ _ _).mem_iff.mp hr
        unfold opn at hr2
        rw [if_pos hrow] at hr2
        obtain ⟨p, hp, hrp⟩ := List.mem_flatMap.mp hr2
        by_cases e : ∃ rs, p = .t (.s h :: rs)
        · obtain ⟨rs, rfl⟩ := e
          have : oneP h (.t (.s h :: rs)) = rs := by simp [oneP]
          rw [this] at hrp
          exact ((hq _ hp).2 h rs rfl).2 hrow r hrp
        · rw [oneP_no (fun rs z => e ⟨rs, z⟩), List.mem_singleton] at hrp
          rw [hrp]
          exact fun rs z => e ⟨rs, z⟩
      rw [laid_t]
      refine ⟨?_, fun h' rs e => ?_⟩
      · rw [laid_t, show (arr (kindOf L h) h (ps.map (laid L))).map (laid L) = arr (kindOf L h) h (ps.map (laid L)) from (List.map_congr_left hfix).trans (List.map_id _), arr_fix hno]
      · cases e
        exact ⟨hfix, hno⟩
    · obtain ⟨e, q⟩ := other g fun h rs z => hg ⟨h, rs, z⟩
      rw [e]
      exact q
theorem laid_laid (L : List Ln) (g : G) : laid L (laid L g) = laid L g := (laid_q L _ g (Nat.le_refl _)).1
theorem flat_len2 {h : Str} : ∀ {qs : List G}, (∀ q ∈ qs, 1 ≤ (oneP h q).length) → qs.length ≤ (flat h qs).length
  | [], _ => Nat.zero_le _
  | q :: qs, n => by
    have h1 := flat_len2 fun p hp => n p (List.mem_cons_of_mem _ hp)
    have h2 := n q List.mem_cons_self
    unfold flat at h1 ⊢
    rw [List.flatMap_cons, List.length_append, List.length_cons]
    omega
theorem wide_q {k h : Str} {qs : List G} {q : G} (hq : q ∈ qs) : wide q ≤ wide (.t (.s h :: arr k h qs)) := by
  rw [wide_t]
  have kept : q ∈ arr k h qs → wide q ≤ max (arr k h qs).length (maxl ((arr k h qs).map wide)) := fun hm => by
    have := le_maxl (List.mem_map.mpr ⟨q, hm, rfl⟩ : wide q ∈ (arr k h qs).map wide)
    omega
  have hp := arr_perm k h qs
  by_cases e : rowish k = true ∧ ∃ rs, q = .t (.s h :: rs)
  · obtain ⟨er, rs, rfl⟩ := e
    have eo : opn k h qs = flat h qs := by unfold opn; rw [if_pos er]
    have sub : ∀ r ∈ rs, r ∈ arr k h qs := fun r hr => by
      rw [hp.mem_iff, eo]
      exact List.mem_flatMap.mpr ⟨_, hq, by simpa [oneP] using hr⟩
    have hl : rs.length ≤ (arr k h qs).length := by
      rw [hp.length_eq, eo]
      obtain ⟨a, b, rfl⟩ := List.append_of_mem hq
      unfold flat
      rw [List.flatMap_append, List.flatMap_cons, List.length_append, List.length_append]
      simp [oneP]
      omega
    rw [wide_t]
    have hm : maxl (rs.map wide) ≤ maxl ((arr k h qs).map wide) := maxl_le.mpr fun n hn => by
      obtain ⟨r, hr, rfl⟩ := List.mem_map.mp hn
      exact le_maxl (List.mem_map.mpr ⟨r, sub r hr, rfl⟩)
    omega
  · refine kept (hp.mem_iff.mpr ?_)
    unfold opn
    split
    · next er => exact List.mem_flatMap.mpr ⟨q, hq, by rw [oneP_no (fun rs z => e ⟨er, rs, z⟩)]; simp⟩
    · exact hq
theorem stands_laid {L : List Ln} (n : Nat) : ∀ g, dp g ≤ n → stands L g = true → wide (laid L g) ≤ 8 → stands L (laid L g) = true := by
  induction n with
  | zero =>
    intro g h
    have := dp_pos g
    omega
  | succ n ih =>
    intro g hd' hg hw
    cases g with
    | s y => rw [laid_s]; exact hg
    | l ps => simp [stands] at hg
    | o d => simp [stands] at hg
    | t ps =>
      cases ps with
      | nil => simp [stands] at hg
      | cons h ps =>
        rw [stands_t, Bool.and_eq_true_iff] at hg
        cases h with
        | s y =>
          rw [laid_t] at hw ⊢
          have hq : ∀ q ∈ ps.map (laid L), stands L q = true := fun q hq => by
            have hwq := wide_q (k := kindOf L y) (h := y) hq
            obtain ⟨p, hp, rfl⟩ := List.mem_map.mp hq
            exact ih p (dp_mem hd' (List.mem_cons_of_mem _ hp)) (List.all_eq_true.mp hg.2 p hp) (by omega)
          rw [stands_t, Bool.and_eq_true_iff]
          constructor
          · cases hf : find L y with
            | none => simp [hasParts, hf] at hg
            | some l =>
              have ek : kindOf L y = l.2.1 := by unfold kindOf; rw [hf]
              have h1 := hg.1
              simp only [hasParts, hf] at h1 ⊢
              rw [ek] at hw ⊢
              have hlen := (arr_perm l.2.1 y (ps.map (laid L))).length_eq
              by_cases er : rowish l.2.1 = true
              · rw [if_pos er] at h1 ⊢
                have eo : opn l.2.1 y (ps.map (laid L)) = flat y (ps.map (laid L)) := by unfold opn; rw [if_pos er]
                have h2 := of_decide_eq_true h1
                have h3 : (ps.map (laid L)).length ≤ (flat y (ps.map (laid L))).length := flat_len2 fun q hq' => by
                  by_cases e : ∃ rs, q = .t (.s y :: rs)
                  · obtain ⟨rs, rfl⟩ := e
                    have hs := hq _ hq'
                    rw [stands_t, Bool.and_eq_true_iff] at hs
                    have h4 := hs.1
                    simp only [hasParts, hf, if_pos er] at h4
                    have := of_decide_eq_true h4
                    simp [oneP]
                    omega
                  · rw [oneP_no (fun rs z => e ⟨rs, z⟩)]
                    simp
                rw [wide_t] at hw
                rw [eo] at hlen
                rw [List.length_map] at h3
                exact decide_eq_true (by omega)
              · rw [if_neg er] at h1 ⊢
                have eo : opn l.2.1 y (ps.map (laid L)) = ps.map (laid L) := by unfold opn; rw [if_neg er]
                rw [eo, List.length_map] at hlen
                rw [hlen]
                exact h1
          · rw [List.all_eq_true]
            intro r hr
            rcases arr_mem hr with hr | ⟨rs, h1, h2⟩
            · exact hq r hr
            · have hs := hq _ h1
              rw [stands_t, Bool.and_eq_true_iff] at hs
              exact List.all_eq_true.mp hs.2 r h2
        | _ => simp [hasParts] at hg
theorem lay0_laid {L : List Ln} {g : G} (h : lay0 L g = true) : lay0 L (laid L g) = true := by
  unfold lay0 at h
  rw [Bool.and_eq_true_iff, Bool.and_eq_true_iff, Bool.and_eq_true_iff] at h
  obtain ⟨h1, h2, h3, h4⟩ := h
  have hb : beyond (laid L g) = false := by simpa using h4
  unfold beyond at hb
  simp only [Bool.or_eq_false_iff, decide_eq_false_iff_not] at hb
  unfold lay0
  rw [laid_laid, stands_laid _ g (Nat.le_refl _) h1 (by omega), h4, decide_eq_true (by omega : points (laid L g) ≤ 80), decide_eq_true (by omega : deep (laid L g) ≤ 12)]
  rfl
end K1
set_option Elab.async false
set_option linter.all false
set_option maxRecDepth 100000
set_option maxHeartbeats 1000000
namespace K1
open PySem PySem.Spec PyProof.Rows L2
/-- texts tell things apart -/
theorem text_inj {a b : G} (ha : gok a = true) (hb : gok b = true) (h : text a = text b) : a = b := by
  have ht : toks a = toks b := by rw [← words_text ha, ← words_text hb, h]
  obtain ⟨y, ea⟩ := run_g _ a (Nat.le_refl _) ha [] [] none
  obtain ⟨z, eb⟩ := run_g _ b (Nat.le_refl _) hb [] [] none
  rw [ht, eb] at ea
  have := congrArg Prod.fst (Option.some.inj ea)
  have := congrArg PSt.parts this
  simpa using this.symm
/-- two sorted rows of the same things are one row -/
theorem sortT_eq {a b : List G} (ha : ∀ g ∈ a, gok g = true) (hp : a.Perm b) : sortT a = sortT b := by
  have tr : ∀ x y z : G, SrtF.leK text x y = true → SrtF.leK text y z = true → SrtF.leK text x z = true := fun x y z h1 h2 => by
    rw [leK_is] at h1 h2 ⊢
    exact decide_eq_true (List.le_trans (of_decide_eq_true h1) (of_decide_eq_true h2))
  have to : ∀ x y : G, (SrtF.leK text x y || SrtF.leK text y x) = true := fun x y => by
    rw [leK_is]
    rcases List.le_total (text x).cps.toList (text y).cps.toList with h | h <;> simp [h]
  have pa : (sortT a).Pairwise (fun x y => SrtF.leK text x y = true) := List.pairwise_mergeSort tr to a
  have pb : (sortT b).Pairwise (fun x y => SrtF.leK text x y = true) := List.pairwise_mergeSort tr to b
  have pp : (sortT a).Perm (sortT b) := (sortT_perm a).trans (hp.trans (sortT_perm b).symm)
  refine List.Perm.eq_of_pairwise (fun x y hx hy h1 h2 => ?_) pa pb pp
  rw [leK_is] at h1 h2
  have gx := ha x ((sortT_perm a).mem_iff.mp hx)
  have gy := ha y (hp.mem_iff.mpr ((sortT_perm b).mem_iff.mp hy))
  exact text_inj gx gy (ext_l (List.le_antisymm (of_decide_eq_true h1) (of_decide_eq_true h2)))
end K1
set_option Elab.async false
set_option linter.all false
set_option maxRecDepth 100000
set_option maxHeartbeats 1000000
namespace K1
open PySem PySem.Spec PyProof.Rows L2
/-- the parts, those of the very same sign opened all the way -/
def open1 (h : Str) (f : List G → List G) : G → List G
  | .t (.s x :: rs) => if x = h then f rs else [.t (.s x :: rs)]
  | q => [q]
def openN (h : Str) : Nat → List G → List G
  | 0, ps => ps
  | n + 1, ps => ps.flatMap (open1 h (openN h n))
theorem flatMap_perm {f g : G → List G} : ∀ {ps : List G}, (∀ p ∈ ps, (f p).Perm (g p)) → (ps.flatMap f).Perm (ps.flatMap g)
  | [], _ => List.Perm.refl _
  | p :: ps, h => by
    rw [List.flatMap_cons, List.flatMap_cons]
    exact (h p List.mem_cons_self).append (flatMap_perm fun q hq => h q (List.mem_cons_of_mem _ hq))
theorem flatMap_same {f g : G → List G} : ∀ {ps : List G}, (∀ p ∈ ps, f p = g p) → ps.flatMap f = ps.flatMap g
  | [], _ => rfl
  | p :: ps, h => by
    rw [List.flatMap_cons, List.flatMap_cons, h p List.mem_cons_self, flatMap_same fun q hq => h q (List.mem_cons_of_mem _ hq)]
theorem laid_other {L : List Ln} {g : G} (hg : ∀ h rs, g ≠ .t (.s h :: rs)) : laid L g = g := by
  unfold laid
  split
  · exact absurd rfl (hg _ _)
  · rfl
theorem open1_same (h : Str) (f : List G → List G) (rs : List G) : open1 h f (.t (.s h :: rs)) = f rs := by simp [open1]
theorem open1_other {h : Str} {f : List G → List G} {q : G} (n : noHd h q) : open1 h f q = [q] := by
  unfold open1
  split
  · rename_i x rs
    by_cases e : x = h
    · subst e
      exact absurd rfl (n rs)
    · rw [if_neg e]
  · rfl
theorem laid_noHd {L : List Ln} {h : Str} {q : G} (n : noHd h q) : noHd h (laid L q) := fun rs e => by
  by_cases hg : ∃ x qs, q = .t (.s x :: qs)
  · obtain ⟨x, qs, rfl⟩ := hg
    rw [laid_t] at e
    cases e
    exact n qs rfl
  · rw [laid_other fun x qs z => hg ⟨x, qs, z⟩] at e
    exact n rs e
/-- laid and opened is opened and laid, up to order -/
theorem open_laid {L : List Ln} {h : Str} (er : rowish (kindOf L h) = true) (n : Nat) : ∀ ps : List G, (∀ p ∈ ps, dp p ≤ n) → (flat h (ps.map (laid L))).Perm ((openN h n ps).map (laid L)) := by
  induction n with
  | zero =>
    intro ps hp
    cases ps with
    | nil => exact List.Perm.refl _
    | cons p ps =>
      have := dp_pos p
      have := hp p List.mem_cons_self
      omega
  | succ n ih =>
    intro ps hp
    have e1 : flat h (ps.map (laid L)) = ps.flatMap fun p => oneP h (laid L p) := by
      unfold flat
      rw [List.flatMap_map]
    have e2 : (openN h (n + 1) ps).map (laid L) = ps.flatMap fun p => (open1 h (openN h n) p).map (laid L) := by
      show (ps.flatMap _).map _ = _
      rw [List.map_flatMap]
    rw [e1, e2]
    refine flatMap_perm fun p hpm => ?_
    by_cases e : ∃ rs, p = .t (.s h :: rs)
    · obtain ⟨rs, rfl⟩ := e
      rw [laid_t, open1_same]
      have : oneP h (.t (.s h :: arr (kindOf L h) h (rs.map (laid L)))) = arr (kindOf L h) h (rs.map (laid L)) := by simp [oneP]
      rw [this]
      refine (arr_perm _ _ _).trans ?_
      rw [show opn (kindOf L h) h (rs.map (laid L)) = flat h (rs.map (laid L)) by unfold opn; rw [if_pos er]]
      exact ih rs fun q hq => dp_mem (hp _ hpm) (List.mem_cons_of_mem _ hq)
    · have nh : noHd h p := fun rs z => e ⟨rs, z⟩
      rw [open1_other nh, oneP_no (laid_noHd nh)]
      exact List.Perm.refl _
/-- of a row in the very same order -/
theorem open_laid_row {L : List Ln} {h : Str} (er : rowish (kindOf L h) = true) (el : loose (kindOf L h) = false) (n : Nat) : ∀ ps : List G, (∀ p ∈ ps, dp p ≤ n) → flat h (ps.map (laid L)) = (openN h n ps).map (laid L) := by
  induction n with
  | zero =>
    intro ps hp
    cases ps with
    | nil => rfl
    | cons p ps =>
      have := dp_pos p
      have := hp p List.mem_cons_self
      omega
  | succ n ih =>
    intro ps hp
    have e1 : flat h (ps.map (laid L)) = ps.flatMap fun p => oneP h (laid L p) := by
      unfold flat
      rw [List.flatMap_map]
    have e2 : (openN h (n + 1) ps).map (laid L) = ps.flatMap fun p => (open1 h (openN h n) p).map (laid L) := by
      show (ps.flatMap _).map _ = _
      rw [List.map_flatMap]
    rw [e1, e2]
    refine flatMap_same fun p hpm => ?_
    by_cases e : ∃ rs, p = .t (.s h :: rs)
    · obtain ⟨rs, rfl⟩ := e
      rw [laid_t, open1_same]
      have : oneP h (.t (.s h :: arr (kindOf L h) h (rs.map (laid L)))) = arr (kindOf L h) h (rs.map (laid L)) := by simp [oneP]
      rw [this]
      unfold arr
      rw [el, if_neg Bool.false_ne_true, show opn (kindOf L h) h (rs.map (laid L)) = flat h (rs.map (laid L)) by unfold opn; rw [if_pos er]]
      exact ih rs fun q hq => dp_mem (hp _ hpm) (List.mem_cons_of_mem _ hq)
    · have nh : noHd h p := fun rs z => e ⟨rs, z⟩
      rw [open1_other nh, oneP_no (laid_noHd nh)]
      rfl
end K1
set_option Elab.async false
set_option linter.all false
set_option maxRecDepth 100000
set_option maxHeartbeats 1000000
namespace K1
open PySem PySem.Spec PyProof.Rows L2
/-- the first of these that is so goes -/
def drop1 (f : G → Bool) : List G → Option (List G)
  | [] => none
  | q :: qs => if f q = true then some qs else (drop1 f qs).map (q :: ·)
/-- each finds one of the others, which goes -/
def matchAll (f : G → G → Bool) : List G → List G → Bool
  | [], _ => true
  | p :: ps, qs => match drop1 (f p) qs with
    | some rest => matchAll f ps rest
    | none => false
theorem drop1_some {f : G → Bool} : ∀ {qs rest : List G}, drop1 f qs = some rest → ∃ q, f q = true ∧ q ∈ qs ∧ qs.Perm (q :: rest)
  | [], _, h => by cases h
  | q :: qs, rest, h => by
    unfold drop1 at h
    by_cases e : f q = true
    · rw [if_pos e] at h
      cases h
      exact ⟨q, e, List.mem_cons_self, List.Perm.refl _⟩
    · rw [if_neg e] at h
      cases hd : drop1 f qs with
      | none => rw [hd] at h; cases h
      | some r =>
        rw [hd] at h
        cases h
        obtain ⟨z, h1, h2, h3⟩ := drop1_some hd
        exact ⟨z, h1, List.mem_cons_of_mem _ h2, (h3.cons q).trans (List.Perm.swap z q r)⟩
theorem drop1_none {f : G → Bool} : ∀ {qs : List G}, drop1 f qs = none → ∀ q ∈ qs, f q = false
  | [], _, q, hq => by cases hq
  | z :: qs, h, q, hq => by
    unfold drop1 at h
    by_cases e : f z = true
    · rw [if_pos e] at h
      cases h
    · rw [if_neg e] at h
      cases hd : drop1 f qs with
      | some r => rw [hd] at h; cases h
      | none =>
        rcases List.mem_cons.mp hq with rfl | hq
        · simpa using e
        · exact drop1_none hd q hq
/-- greedily matched just where one is the other in another order -/
theorem match_perm (m : G → G) (f : G → G → Bool) : ∀ (ps qs : List G), (∀ p ∈ ps, ∀ q ∈ qs, f p q = true ↔ m p = m q) → ps.length = qs.length → (matchAll f ps qs = true ↔ (ps.map m).Perm (qs.map m))
  | [], qs, _, hl => by
    have : qs = [] := List.eq_nil_of_length_eq_zero hl.symm
    subst this
    simp [matchAll]
  | p :: ps, qs, hf, hl => by
    unfold matchAll
    cases hd : drop1 (f p) qs with
    | none =>
      refine ⟨fun z => (by cases z), fun hp => ?_⟩
      have hm : m p ∈ qs.map m := hp.mem_iff.mp (by simp)
      obtain ⟨q, hq, e⟩ := List.mem_map.mp hm
      have h1 := (hf p List.mem_cons_self q hq).mpr e.symm
      rw [drop1_none hd q hq] at h1
      cases h1
    | some rest =>
      obtain ⟨q, h1, h2, h3⟩ := drop1_some hd
      have e := (hf p List.mem_cons_self q h2).mp h1
      have hlr : ps.length = rest.length := by
        have := h3.length_eq
        simp only [List.length_cons] at this hl
        omega
      have ih := match_perm m f ps rest (fun a ha b hb => hf a (List.mem_cons_of_mem _ ha) b (h3.mem_iff.mpr (List.mem_cons_of_mem _ hb))) hlr
      show matchAll f ps rest = true ↔ _
      rw [ih]
      have h4 : (qs.map m).Perm (m q :: rest.map m) := h3.map m
      constructor
      · intro hp
        show (m p :: ps.map m).Perm (qs.map m)
        rw [e]
        exact (hp.cons _).trans h4.symm
      · intro hp
        have h5 : (m p :: ps.map m).Perm (m q :: rest.map m) := hp.trans h4
        rw [e] at h5
        exact h5.cons_inv
end K1
set_option Elab.async false
set_option linter.all false
set_option maxRecDepth 100000
set_option maxHeartbeats 1000000
namespace K1
open PySem PySem.Spec PyProof.Rows L2
theorem openN_fuel {h : Str} (n : Nat) : ∀ (m : Nat) (ps : List G), (∀ p ∈ ps, dp p ≤ n) → (∀ p ∈ ps, dp p ≤ m) → openN h n ps = openN h m ps := by
  induction n with
  | zero =>
    intro m ps hn hm
    cases ps with
    | nil => cases m <;> rfl
    | cons p ps =>
      have := dp_pos p
      have := hn p List.mem_cons_self
      omega
  | succ n ih =>
    intro m ps hn hm
    cases m with
    | zero =>
      cases ps with
      | nil => rfl
      | cons p ps =>
        have := dp_pos p
        have := hm p List.mem_cons_self
        omega
    | succ m =>
      refine flatMap_same fun p hp => ?_
      by_cases e : ∃ rs, p = .t (.s h :: rs)
      · obtain ⟨rs, rfl⟩ := e
        rw [open1_same, open1_same]
        exact ih m rs (fun q hq => dp_mem (hn _ hp) (List.mem_cons_of_mem _ hq)) (fun q hq => dp_mem (hm _ hp) (List.mem_cons_of_mem _ hq))
      · have nh : noHd h p := fun rs z => e ⟨rs, z⟩
        rw [open1_other nh, open1_other nh]
/-- the parts as the law opens them -/
def opG (L : List Ln) (h : Str) (ps : List G) : List G := if rowish (kindOf L h) then openN h (maxl (ps.map dp)) ps else ps
theorem openN_mem {L : List Ln} {h : Str} (n : Nat) : ∀ (ps : List G) (N : Nat), (∀ p ∈ ps, dp p ≤ N) → (∀ p ∈ ps, stands L p = true) → ∀ r ∈ openN h n ps, dp r ≤ N ∧ stands L r = true := by
  induction n with
  | zero => exact fun ps N hd hs r hr => ⟨hd r hr, hs r hr⟩
  | succ n ih =>
    intro ps N hd hs r hr
    obtain ⟨p, hp, hrp⟩ := List.mem_flatMap.mp hr
    by_cases e : ∃ rs, p = .t (.s h :: rs)
    · obtain ⟨rs, rfl⟩ := e
      rw [open1_same] at hrp
      have hst := hs _ hp
      rw [stands_t, Bool.and_eq_true_iff] at hst
      have hdp := hd _ hp
      refine ih rs N (fun q hq => ?_) (fun q hq => List.all_eq_true.mp hst.2 q hq) r hrp
      have := dp_mem (n := N) (by omega : dp (.t (.s h :: rs)) ≤ N + 1) (List.mem_cons_of_mem _ hq)
      exact this
    · have nh : noHd h p := fun rs z => e ⟨rs, z⟩
      rw [open1_other nh, List.mem_singleton] at hrp
      rw [hrp]
      exact ⟨hd p hp, hs p hp⟩
theorem opG_mem {L : List Ln} {h : Str} {ps : List G} {N : Nat} (hd : ∀ p ∈ ps, dp p ≤ N) (hs : ∀ p ∈ ps, stands L p = true) : ∀ r ∈ opG L h ps, dp r ≤ N ∧ stands L r = true := fun r hr => by
  unfold opG at hr
  split at hr
  · exact openN_mem _ ps N hd hs r hr
  · exact ⟨hd r hr, hs r hr⟩
theorem le_dps {ps : List G} : ∀ p ∈ ps, dp p ≤ maxl (ps.map dp) := fun p hp => le_maxl (List.mem_map.mpr ⟨p, hp, rfl⟩)
/-- laid: the opened parts laid, in their order, or sorted -/
theorem arr_op {L : List Ln} {h : Str} {ps : List G} : (loose (kindOf L h) = false → arr (kindOf L h) h (ps.map (laid L)) = (opG L h ps).map (laid L)) ∧ (opn (kindOf L h) h (ps.map (laid L))).Perm ((opG L h ps).map (laid L)) := by
  unfold opG opn arr
  by_cases er : rowish (kindOf L h) = true
  · rw [if_pos er, if_pos er]
    refine ⟨fun el => ?_, open_laid er _ ps le_dps⟩
    rw [el, if_neg Bool.false_ne_true]
    unfold opn
    rw [if_pos er]
    exact open_laid_row er el _ ps le_dps
  · rw [if_neg er, if_neg er]
    refine ⟨fun el => ?_, List.Perm.refl _⟩
    rw [el, if_neg Bool.false_ne_true]
    unfold opn
    rw [if_neg er]
end K1
set_option Elab.async false
set_option linter.all false
set_option maxRecDepth 100000
set_option maxHeartbeats 1000000
namespace K1
open PySem PySem.Spec PyProof.Rows L2
def allPairs (f : G → G → Bool) : List G → List G → Bool
  | [], [] => true
  | p :: ps, q :: qs => f p q && allPairs f ps qs
  | _, _ => false
theorem allPairs_iff (m : G → G) (f : G → G → Bool) : ∀ (ps qs : List G), (∀ p ∈ ps, ∀ q ∈ qs, f p q = true ↔ m p = m q) → (allPairs f ps qs = true ↔ ps.map m = qs.map m)
  | [], [], _ => by simp [allPairs]
  | [], q :: qs, _ => by simp [allPairs]
  | p :: ps, [], _ => by simp [allPairs]
  | p :: ps, q :: qs, h => by
    have ih := allPairs_iff m f ps qs fun a ha b hb => h a (List.mem_cons_of_mem _ ha) b (List.mem_cons_of_mem _ hb)
    simp only [allPairs, Bool.and_eq_true, List.map_cons, List.cons.injEq]
    rw [ih, h p List.mem_cons_self q List.mem_cons_self]
/-- alike by order and grouping, as the law goes about it -/
def areN (L : List Ln) : Nat → G → G → Bool
  | n + 1, .t (.s x :: ps), .t (.s y :: qs) => decide (x = y) && (decide ((opG L x ps).length = (opG L y qs).length) && (if loose (kindOf L x) then matchAll (areN L n) (opG L x ps) (opG L y qs) else allPairs (areN L n) (opG L x ps) (opG L y qs)))
  | _, .s a, .s b => decide (a = b)
  | _, _, _ => false
theorem gok_laid {L : List Ln} (n : Nat) : ∀ g, dp g ≤ n → gok g = true → gok (laid L g) = true := by
  induction n with
  | zero =>
    intro g h
    have := dp_pos g
    omega
  | succ n ih =>
    intro g hd' hg
    cases g with
    | s y => rw [laid_s]; exact hg
    | l ps => simp [gok] at hg
    | o d => simp [gok] at hg
    | t ps =>
      cases ps with
      | nil => simp [gok] at hg
      | cons h ps =>
        cases h with
        | s y =>
          rw [gok_t, Bool.and_eq_true_iff] at hg
          rw [laid_t, gok_t, Bool.and_eq_true_iff]
          have hq : ∀ q ∈ ps.map (laid L), gok q = true := fun q hq => by
            obtain ⟨p, hp, rfl⟩ := List.mem_map.mp hq
            exact ih p (dp_mem hd' (List.mem_cons_of_mem _ hp)) (List.all_eq_true.mp hg.2 p hp)
          refine ⟨hg.1, List.all_eq_true.mpr fun r hr => ?_⟩
          rcases arr_mem hr with hr | ⟨rs, h1, h2⟩
          · exact hq r hr
          · have := hq _ h1
            rw [gok_t, Bool.and_eq_true_iff] at this
            exact List.all_eq_true.mp this.2 r h2
        | _ => simp [gok] at hg
theorem are_laid {L : List Ln} (ok : LOk L) (n : Nat) : ∀ a b, dp a ≤ n → stands L a = true → stands L b = true → (areN L n a b = true ↔ laid L a = laid L b) := by
  induction n with
  | zero =>
    intro a b h
    have := dp_pos a
    omega
  | succ n ih =>
    intro a b hd' ha hb
    have sa := (stands_shp _ a (Nat.le_refl _) ha).1
    have sb := (stands_shp _ b (Nat.le_refl _) hb).1
    rcases shp_cases sa with ⟨x, rfl⟩ | ⟨x, ps, rfl, _⟩ <;> rcases shp_cases sb with ⟨y, rfl⟩ | ⟨y, qs, rfl, _⟩
    · rw [laid_s, laid_s]
      simp [areN]
    · rw [laid_s, laid_t]
      simp [areN]
    · rw [laid_s, laid_t]
      simp [areN]
    · rw [laid_t, laid_t]
      simp only [areN, Bool.and_eq_true, decide_eq_true_iff, G.t.injEq, List.cons.injEq, G.s.injEq]
      rw [stands_t, Bool.and_eq_true_iff] at ha hb
      by_cases exy : x = y
      · subst exy
        have hps : ∀ r ∈ opG L x ps, dp r ≤ n ∧ stands L r = true := opG_mem (fun p hp => dp_mem hd' (List.mem_cons_of_mem _ hp)) fun p hp => List.all_eq_true.mp ha.2 p hp
        have hqs : ∀ r ∈ opG L x qs, dp r ≤ maxl (qs.map dp) ∧ stands L r = true := opG_mem le_dps fun p hp => List.all_eq_true.mp hb.2 p hp
        have hf : ∀ p ∈ opG L x ps, ∀ q ∈ opG L x qs, areN L n p q = true ↔ laid L p = laid L q := fun p hp q hq => ih p q (hps p hp).1 (hps p hp).2 (hqs q hq).2
        obtain ⟨o1, p1⟩ := arr_op (L := L) (h := x) (ps := ps)
        obtain ⟨o2, p2⟩ := arr_op (L := L) (h := x) (ps := qs)
        cases el : loose (kindOf L x) with
        | false =>
          rw [o1 el, o2 el]
          simp only [Bool.false_eq_true, if_false, true_and]
          rw [allPairs_iff (laid L) _ _ _ hf]
          refine ⟨fun z => z.2, fun z => ⟨?_, z⟩⟩
          simpa using congrArg List.length z
        | true =>
          simp only [if_true, true_and]
          have e1 : ∀ rs, arr (kindOf L x) x rs = sortT (opn (kindOf L x) x rs) := fun rs => by unfold arr; rw [if_pos el]
          rw [e1, e1]
          constructor
          · rintro ⟨hl, hm⟩
            have pm := (match_perm (laid L) _ _ _ hf hl).mp hm
            refine sortT_eq (fun g hg => ?_) (p1.trans (pm.trans p2.symm))
            obtain ⟨r, hr, rfl⟩ := List.mem_map.mp (p1.mem_iff.mp hg)
            exact gok_laid _ r (Nat.le_refl _) (stands_gok ok _ r (Nat.le_refl _) (hps r hr).2)
          · intro z
            have pm : ((opG L x ps).map (laid L)).Perm ((opG L x qs).map (laid L)) := p1.symm.trans (((sortT_perm _).symm.trans (z ▸ sortT_perm _)).trans p2)
            have hl : (opG L x ps).length = (opG L x qs).length := by simpa using pm.length_eq
            exact ⟨hl, (match_perm (laid L) _ _ _ hf hl).mpr pm⟩
      · simp [exy]
end K1
set_option Elab.async false
set_option linter.all false
set_option maxRecDepth 100000
set_option maxHeartbeats 1000000
namespace K1
open PySem PySem.Spec PyProof.Rows L2
/-! ### drawn terms stand and are laid; told otherwise they are laid alike -/
abbrev GB : List Str := ["A", "Bx", "Zzzz"]
def gapsOf : G → List Str
  | .s x => [x]
  | .t (_ :: ps) => (ps.map gapsOf).flatten
  | _ => []
theorem gapsOf_s (x : Str) : gapsOf (.s x) = [x] := by simp only [gapsOf]
theorem gapsOf_t (h : G) (ps : List G) : gapsOf (.t (h :: ps)) = (ps.map gapsOf).flatten := by simp only [gapsOf]
/-- its gaps are of these -/
def GpB (g : G) : Prop := ∀ x ∈ gapsOf g, x ∈ GB
theorem gpb_s {x : Str} (h : x ∈ GB) : GpB (.s x) := fun z hz => by
  rw [gapsOf_s, List.mem_singleton] at hz
  rw [hz]
  exact h
theorem gpb_t {h : G} {ps : List G} (hp : ∀ p ∈ ps, GpB p) : GpB (.t (h :: ps)) := fun z hz => by
  rw [gapsOf_t, List.mem_flatten] at hz
  obtain ⟨l, hl, hz⟩ := hz
  obtain ⟨p, hpm, rfl⟩ := List.mem_map.mp hl
  exact hp p hpm z hz
theorem gpb_of {h : G} {ps : List G} (hg : GpB (.t (h :: ps))) : ∀ p ∈ ps, GpB p := fun p hp z hz => hg z (by
  rw [gapsOf_t, List.mem_flatten]
  exact ⟨_, List.mem_map.mpr ⟨p, hp, rfl⟩, hz⟩)
structure Std (L : List Ln) (g : G) : Prop where
  st : stands L g = true
  ld : laid L g = g
  gp : GpB g
theorem find_nd : ∀ {L : List Ln} {l : Ln}, (L.map (·.1)).Nodup → l ∈ L → find L l.1 = some l
  | m :: L, l, hn, hm => by
    rw [List.map_cons, List.nodup_cons] at hn
    unfold find
    by_cases e : m.1 = l.1
    · rw [if_pos e]
      rcases List.mem_cons.mp hm with rfl | hm
      · rfl
      · exact absurd (List.mem_map.mpr ⟨l, hm, e.symm⟩) hn.1
    · rw [if_neg e]
      rcases List.mem_cons.mp hm with rfl | hm
      · exact absurd rfl e
      · exact find_nd hn.2 hm
theorem kindOf_of {L : List Ln} {x : Str} {l : Ln} (h : find L x = some l) : kindOf L x = l.2.1 := by unfold kindOf; rw [h]
theorem stands_s (L : List Ln) (x : Str) : stands L (.s x) = gapB x := by rw [stands]
theorem std_str {L : List Ln} {x : Str} (h : gapB x = true) (hb : x ∈ GB) : Std L (.s x) := ⟨by rw [stands_s]; exact h, laid_s L x, gpb_s hb⟩
theorem arr_nil (k h : Str) : arr k h [] = [] := by
  have e : opn k h [] = [] := by unfold opn flat; split <;> rfl
  unfold arr
  rw [e]
  split
  · exact List.Perm.eq_nil (sortT_perm [])
  · rfl
theorem std_one {L : List Ln} {x : Str} {l : Ln} (h : find L x = some l) (h1 : l.2.1 = "plain") (h2 : l.2.2 = 0) : Std L (.t [.s x]) := by
  refine ⟨?_, by rw [laid_t, List.map_nil, arr_nil], gpb_t fun _ z => absurd z (by simp)⟩
  rw [stands_t]
  simp only [hasParts, h, h1, h2, List.all_nil, Bool.and_true, List.length_nil]
  rfl
theorem hasParts_le {L : List Ln} (ok : LOk L) {x : Str} {n : Nat} (h : hasParts L (.s x) n = true) : n ≤ 8 := by
  cases hf : find L x with
  | none => simp [hasParts, hf] at h
  | some l =>
    simp only [hasParts, hf] at h
    have := ok.sm l (find_mem hf).1
    split at h
    · exact (of_decide_eq_true h).2
    · have := of_decide_eq_true h
      omega
theorem stands_wide {L : List Ln} (ok : LOk L) (n : Nat) : ∀ g, dp g ≤ n → stands L g = true → wide g ≤ 8 := by
  induction n with
  | zero =>
    intro g h
    have := dp_pos g
    omega
  | succ n ih =>
    intro g hd' hg
    obtain ⟨hs, _⟩ := stands_shp _ g (Nat.le_refl _) hg
    rcases shp_cases hs with ⟨x, rfl⟩ | ⟨x, ps, rfl, hp⟩
    · simp [wide]
    · rw [stands_t, Bool.and_eq_true_iff] at hg
      rw [wide_t]
      have h1 := hasParts_le ok hg.1
      have h2 : maxl (ps.map wide) ≤ 8 := maxl_le.mpr fun m hm => by
        obtain ⟨p, hp, rfl⟩ := List.mem_map.mp hm
        exact ih p (dp_mem hd' (List.mem_cons_of_mem _ hp)) (List.all_eq_true.mp hg.2 p hp)
      omega
theorem sortT_take {qs : List G} (n : Nat) (h : sortT qs = qs) : sortT (qs.take n) = qs.take n := by
  have pw : qs.Pairwise (fun a b => SrtF.leK text a b = true) := by
    rw [← h]
    refine List.pairwise_mergeSort (fun a b c h1 h2 => ?_) (fun a b => ?_) qs
    · rw [leK_is] at h1 h2 ⊢
      exact decide_eq_true (List.le_trans (of_decide_eq_true h1) (of_decide_eq_true h2))
    · rw [leK_is]
      rcases List.le_total (text a).cps.toList (text b).cps.toList with h | h
      · simp [h]
      · simp [h]
  exact List.mergeSort_of_pairwise (pw.sublist (List.take_sublist n qs))
/-- a laid term of drawn parts, its first parts -/
theorem std_cut {L : List Ln} (ok : LOk L) {x : Str} {gs as : List G} (hT : stands L (.t (.s x :: gs)) = true) (hg : ∀ p ∈ gs, Std L p) (e : as = arr (kindOf L x) x gs) : Std L (.t (.s x :: as.take 8)) := by
  have em : gs.map (laid L) = gs := (List.map_congr_left fun p hp => (hg p hp).ld).trans (List.map_id _)
  have el : laid L (.t (.s x :: gs)) = .t (.s x :: as) := by rw [laid_t, em, e]
  have hq := laid_q L _ (.t (.s x :: gs)) (Nat.le_refl _)
  rw [el] at hq
  obtain ⟨q1, q2⟩ := hq.2 x as rfl
  rw [stands_t, Bool.and_eq_true_iff] at hT
  obtain ⟨t1, t2⟩ := hT
  have hlen := (arr_perm (kindOf L x) x gs).length_eq
  rw [← e] at hlen
  have h8 := hasParts_le ok t1
  refine ⟨?_, ?_, gpb_t fun r hr => ?_⟩
  rotate_left 2
  · have hr' := List.mem_of_mem_take hr
    rw [e] at hr'
    rcases arr_mem hr' with hr' | ⟨rs, h1, h2⟩
    · exact (hg r hr').gp
    · exact gpb_of (hg _ h1).gp r h2
  · rw [stands_t, Bool.and_eq_true_iff]
    refine ⟨?_, List.all_eq_true.mpr fun r hr => ?_⟩
    · cases hf : find L x with
      | none => simp [hasParts, hf] at t1
      | some l =>
        have ek := kindOf_of hf
        simp only [hasParts, hf] at t1 ⊢
        by_cases er : rowish l.2.1 = true
        · rw [if_pos er] at t1 ⊢
          have h2 := of_decide_eq_true t1
          have eo : opn (kindOf L x) x gs = flat x gs := by unfold opn; rw [ek, if_pos er]
          have h3 : gs.length ≤ (flat x gs).length := flat_len2 fun q hq' => by
            by_cases e : ∃ rs, q = .t (.s x :: rs)
            · obtain ⟨rs, rfl⟩ := e
              have hs := List.all_eq_true.mp t2 _ hq'
              rw [stands_t, Bool.and_eq_true_iff] at hs
              have h4 := hs.1
              simp only [hasParts, hf, if_pos er] at h4
              have := of_decide_eq_true h4
              simp [oneP]
              omega
            · rw [oneP_no (fun rs z => e ⟨rs, z⟩)]
              simp
          rw [eo] at hlen
          rw [List.length_take]
          exact decide_eq_true (by omega)
        · rw [if_neg er] at t1 ⊢
          have eo : opn (kindOf L x) x gs = gs := by unfold opn; rw [ek, if_neg er]
          rw [eo] at hlen
          rw [List.length_take, hlen, Nat.min_eq_right h8]
          exact t1
    · have hr' := List.mem_of_mem_take hr
      rw [e] at hr'
      rcases arr_mem hr' with hr' | ⟨rs, h1, h2⟩
      · exact (hg r hr').st
      · have hs := (hg _ h1).st
        rw [stands_t, Bool.and_eq_true_iff] at hs
        exact List.all_eq_true.mp hs.2 r h2
  · have em2 : (as.take 8).map (laid L) = as.take 8 := (List.map_congr_left fun p hp => q1 p (List.mem_of_mem_take hp)).trans (List.map_id _)
    rw [laid_t, em2]
    have ho : opn (kindOf L x) x (as.take 8) = as.take 8 := by
      unfold opn
      split
      · next er => exact flat_no fun r hr => q2 er r (List.mem_of_mem_take hr)
      · rfl
    have ea : arr (kindOf L x) x (as.take 8) = as.take 8 := by
      unfold arr
      rw [ho]
      split
      · next eo =>
        refine sortT_take 8 ?_
        rw [e]
        unfold arr
        rw [if_pos eo]
        exact sortT_idem _
      · rfl
    rw [ea]
/-- the same thing told otherwise: it stands, and is laid alike -/
theorem opn_perm {k y : Str} {gs hs : List G} (p : gs.Perm hs) : (opn k y gs).Perm (opn k y hs) := by
  unfold opn
  split
  · exact p.flatMap_right _
  · exact p
theorem arr_permL {k y : Str} {gs hs : List G} (hg : ∀ g ∈ gs, gok g = true) (el : loose k = true) (p : gs.Perm hs) : arr k y gs = arr k y hs := by
  unfold arr
  rw [if_pos el, if_pos el]
  refine sortT_eq (fun g hg' => ?_) (opn_perm p)
  rcases opn_mem hg' with h | ⟨rs, h1, h2⟩
  · exact hg g h
  · have := hg _ h1
    rw [gok_t, Bool.and_eq_true_iff] at this
    exact List.all_eq_true.mp this.2 g h2
theorem flat_app (y : Str) (as bs : List G) : flat y (as ++ bs) = flat y as ++ flat y bs := by unfold flat; rw [List.flatMap_append]
/-- parts from a up to e in a row of their own -/
theorem arr_group {L : List Ln} {y : Str} {gs : List G} {a e : Nat} (hg : ∀ g ∈ gs, gok (laid L g) = true) (er : rowish (kindOf L y) = true) (hy : nameB y = true) (ha : a ≤ e) :
    arr (kindOf L y) y ((gs.take a ++ [G.t (.s y :: (gs.drop a).take (e - a))] ++ gs.drop e).map (laid L)) = arr (kindOf L y) y (gs.map (laid L)) := by
  have key : gs.map (laid L) = (gs.take a).map (laid L) ++ ((gs.drop a).take (e - a)).map (laid L) ++ (gs.drop e).map (laid L) := by
    rw [← List.map_append, ← List.map_append]
    congr 1
    have h1 : gs.drop a = (gs.drop a).take (e - a) ++ gs.drop e := by
      have := (List.take_append_drop (e - a) (gs.drop a)).symm
      rw [List.drop_drop, show a + (e - a) = e by omega] at this
      exact this
    rw [List.append_assoc, ← h1, List.take_append_drop]
  have hq : ∀ q ∈ (gs.take a ++ [G.t (.s y :: (gs.drop a).take (e - a))] ++ gs.drop e).map (laid L), gok q = true := fun q hq => by
    obtain ⟨p, hp, rfl⟩ := List.mem_map.mp hq
    rcases List.mem_append.mp hp with hp | hp
    · rcases List.mem_append.mp hp with hp | hp
      · exact hg p (List.mem_of_mem_take hp)
      · rw [List.mem_singleton.mp hp, laid_t, gok_t, hy, Bool.true_and]
        refine List.all_eq_true.mpr fun r hr => ?_
        have hm : ∀ q ∈ ((gs.drop a).take (e - a)).map (laid L), gok q = true := fun q hq => by
          obtain ⟨p, hp, rfl⟩ := List.mem_map.mp hq
          exact hg p (List.mem_of_mem_drop (List.mem_of_mem_take hp))
        rcases arr_mem hr with hr | ⟨rs, h1, h2⟩
        · exact hm r hr
        · have := hm _ h1
          rw [gok_t, Bool.and_eq_true_iff] at this
          exact List.all_eq_true.mp this.2 r h2
    · exact hg p (List.mem_of_mem_drop hp)
  rw [List.map_append, List.map_append, List.map_cons, List.map_nil, laid_t]
  have one : oneP y (.t (.s y :: arr (kindOf L y) y (((gs.drop a).take (e - a)).map (laid L)))) = arr (kindOf L y) y (((gs.drop a).take (e - a)).map (laid L)) := by simp [oneP]
  have f1 : flat y [G.t (.s y :: arr (kindOf L y) y (((gs.drop a).take (e - a)).map (laid L)))] = arr (kindOf L y) y (((gs.drop a).take (e - a)).map (laid L)) := by
    unfold flat
    rw [List.flatMap_cons, one, List.flatMap_nil, List.append_nil]
  have oo : ∀ qs, opn (kindOf L y) y qs = flat y qs := fun qs => by unfold opn; rw [if_pos er]
  have pp : (opn (kindOf L y) y ((gs.take a).map (laid L) ++ [G.t (.s y :: arr (kindOf L y) y (((gs.drop a).take (e - a)).map (laid L)))] ++ (gs.drop e).map (laid L))).Perm (opn (kindOf L y) y (gs.map (laid L))) := by
    rw [oo, oo, key, flat_app, flat_app, flat_app, flat_app, f1]
    refine (List.Perm.append_left _ ?_).append_right _
    rw [← oo]
    exact arr_perm _ _ _
  by_cases el : loose (kindOf L y) = true
  · have ea : ∀ qs, arr (kindOf L y) y qs = sortT (opn (kindOf L y) y qs) := fun qs => by unfold arr; rw [if_pos el]
    rw [ea (_ ++ _), ea (gs.map (laid L))]
    refine sortT_eq (fun g hg' => ?_) pp
    rw [List.map_append, List.map_append, List.map_cons, List.map_nil, laid_t] at hq
    rcases opn_mem hg' with h | ⟨rs, h1, h2⟩
    · exact hq g h
    · have := hq _ h1
      rw [gok_t, Bool.and_eq_true_iff] at this
      exact List.all_eq_true.mp this.2 g h2
  · have ea : ∀ qs, arr (kindOf L y) y qs = flat y qs := fun qs => by unfold arr; rw [if_neg el, oo]
    rw [ea (_ ++ _), ea (gs.map (laid L)), key, flat_app, flat_app, f1, flat_app, flat_app, ea]
/-- what a draft of a drawn term is -/
structure Dft (L : List Ln) (g g' : G) : Prop where
  st : stands L g' = true
  ld : laid L g' = laid L g
theorem lay0_of {L : List Ln} (ok : LOk L) {g g' : G} (hg : Std L g) (h : Dft L g g') (p1 : points g' ≤ 80) (p2 : deep g' ≤ 12) (p3 : points g ≤ 80) (p4 : deep g ≤ 12) : lay0 L g' = true := by
  unfold lay0
  rw [h.st, h.ld, hg.ld, decide_eq_true p1, decide_eq_true p2]
  have := stands_wide ok _ g (Nat.le_refl _) hg.st
  unfold beyond
  rw [decide_eq_false (show ¬ 80 < points g by omega), decide_eq_false (show ¬ 12 < deep g by omega), decide_eq_false (show ¬ 8 < wide g by omega)]
  rfl
end K1
set_option Elab.async false
set_option linter.all false
set_option maxRecDepth 100000
set_option maxHeartbeats 2000000
namespace K1
open PySem PySem.Spec PyProof.Rows L2
open PySem.W (EachIs)
/-! ### a heap with some places hidden -/
def hid (ls : List Addr) (H : Hp) : Hp := fun a => if a ∈ ls then none else H a
theorem hid_at {ls : List Addr} {H : Hp} {a : Addr} (h : a ∉ ls) : hid ls H a = H a := if_neg h
theorem hid_of {ls : List Addr} {H H' : Hp} (h : ∀ a o, a ∉ ls → H a = some o → H' a = some o) : Same (hid ls H) (hid ls H') := fun b o e => by
  unfold hid at e ⊢
  by_cases hb : b ∈ ls
  · rw [if_pos hb] at e
    cases e
  · rw [if_neg hb] at e ⊢
    exact h b o hb e
theorem hid_le {ls : List Addr} {H : Hp} : Same (hid ls H) H := fun b o e => by
  unfold hid at e
  by_cases hb : b ∈ ls
  · rw [if_pos hb] at e
    cases e
  · rw [if_neg hb] at e
    exact e
theorem hid_same {ls : List Addr} {H H' : Hp} (s : Same H H') : Same (hid ls H) (hid ls H') := hid_of fun a o _ e => s a o e
theorem hid_ext {ls : List Addr} {H H' : Hp} (s : Ext H H') : Ext (hid ls H) (hid ls H') := fun b o e n => by
  unfold hid at e ⊢
  by_cases hb : b ∈ ls
  · rw [if_pos hb] at e
    cases e
  · rw [if_neg hb] at e ⊢
    exact s b o e n
theorem hid_get {d g x : Addr} {H : Hp} {o : HO} (xd : x ≠ d) (xg : x ≠ g) (e : H x = some o) : hid [d, g] H x = some o := by
  rw [hid_at (by simp only [List.mem_cons, List.not_mem_nil, or_false, not_or]; exact ⟨xd, xg⟩)]
  exact e
theorem tabs_kp {T : List (Addr × Str)} {d g c : Addr} {t : Nat} {H H' : Hp} (G : Gen d g c t H) (k : Kp d g H H') (h : LamX.Tabs T H) : LamX.Tabs T H' := fun p hp => by
  obtain ⟨_, _, _, _, _, e1, e2, _⟩ := G
  obtain ⟨ps, h1, h2, h3⟩ := h p hp
  have off : ∀ {b : Addr} {o : HO}, H b = some o → (∀ kvs, o ≠ .dK kvs) → (∀ xs, o ≠ .lst xs) → H' b = some o := fun {b o} e n1 n2 =>
    k b o (fun z => by rw [z, e1] at e; exact n1 _ (Option.some.inj e).symm) (fun z => by rw [z, e2] at e; exact n2 _ (Option.some.inj e).symm) e
  refine ⟨ps, off h1 (by intro _ z; cases z) (by intro _ z; cases z), h2, fun pos cv hc => ?_⟩
  obtain ⟨cc, rfl, e⟩ := h3 pos cv hc
  exact ⟨cc, rfl, off e (by intro _ z; cases z) (by intro _ z; cases z)⟩
theorem Gen.ext {d g c : Addr} {t : Nat} {H H' : Hp} (G : Gen d g c t H) (s : Ext H H') : Gen d g c t H' := by
  obtain ⟨n, gs, cs, r, u, e1, e2, e3, e4⟩ := G
  exact ⟨n, gs, cs, r, u, s _ _ e1 (by intro _ z; cases z), s _ _ e2 (by intro _ z; cases z), s _ _ e3 (by intro _ z; cases z), e4⟩
/-- all but what is drawn from, and the tables, stands -/
def Kn (d g : Addr) (H H' : Hp) : Prop := ∀ b o, b ≠ d → b ≠ g → H b = some o → (∀ ps, o ≠ .tbl ps) → H' b = some o
theorem Kn.refl {d g : Addr} {H : Hp} : Kn d g H H := fun _ _ _ _ h _ => h
theorem Kn.trans {d g : Addr} {H H1 H2 : Hp} (a : Kn d g H H1) (b : Kn d g H1 H2) : Kn d g H H2 := fun x o h1 h2 e n => b x o h1 h2 (a x o h1 h2 e n) n
theorem Kn.kp {d g : Addr} {H H1 : Hp} (a : Kp d g H H1) : Kn d g H H1 := fun x o h1 h2 e _ => a x o h1 h2 e
theorem Kn.ext {d g : Addr} {H H1 : Hp} (a : Ext H H1) : Kn d g H H1 := fun x o _ _ e n => a x o e n
theorem Kn.same {d g : Addr} {H H1 : Hp} (a : Same H H1) : Kn d g H H1 := fun x o _ _ e _ => a x o e
theorem Kn.new {d g p : Addr} {o : HO} {H H1 : Hp} (a : Kn d g H H1) (h : H1 p = none) : Kn d g H (upd H1 p o) := a.trans (.same (Same.new (Same.refl H1) h))
theorem Kn.hid {d g : Addr} {H H1 : Hp} (a : Kn d g H H1) : Ext (hid [d, g] H) (hid [d, g] H1) := fun b o e n => by
  unfold K1.hid at e ⊢
  by_cases hb : b ∈ [d, g]
  · rw [if_pos hb] at e
    cases e
  · rw [if_neg hb] at e ⊢
    simp only [List.mem_cons, List.not_mem_nil, or_false, not_or] at hb
    exact a b o hb.1 hb.2 e n
structure Wd (TT : List (Addr × Str)) (d g c : Addr) (t : Nat) (H : Hp) : Prop where
  G : Gen d g c t H
  T : LamX.Tabs TT H
theorem Wd.same {TT : List (Addr × Str)} {d g c : Addr} {t : Nat} {H H' : Hp} (w : Wd TT d g c t H) (s : Same H H') : Wd TT d g c t H' := ⟨w.G.same s, w.T.ext s⟩
theorem Wd.new {TT : List (Addr × Str)} {d g c p : Addr} {o : HO} {t : Nat} {H : Hp} (w : Wd TT d g c t H) (h : H p = none) : Wd TT d g c t (upd H p o) := w.same (Same.new (Same.refl H) h)
theorem Wd.ext {TT : List (Addr × Str)} {d g c : Addr} {t : Nat} {H H' : Hp} (w : Wd TT d g c t H) (s : Ext H H') (h : LamX.Tabs TT H') : Wd TT d g c t H' := ⟨w.G.ext s, h⟩
theorem Wd.kp {TT : List (Addr × Str)} {d g c : Addr} {t t' : Nat} {H H' : Hp} (w : Wd TT d g c t H) (G : Gen d g c t' H') (k : Kp d g H H') : Wd TT d g c t' H' := ⟨G, tabs_kp w.G k w.T⟩
theorem Wd.mono {TT : List (Addr × Str)} {d g c : Addr} {t t' : Nat} {H : Hp} (w : Wd TT d g c t H) (h : t ≤ t') : Wd TT d g c t' H := ⟨w.G.mono h, w.T⟩
theorem Gen.tup {d g c a : Addr} {t : Nat} {H : Hp} {o : HO} (G : Gen d g c t H) (e : H a = some o) (h : (∃ xs, o = .tup xs) ∨ ∃ ob xs, o = .frz ob (.tup xs)) : a ≠ d ∧ a ≠ g := by
  obtain ⟨_, _, _, _, _, e1, e2, _⟩ := G
  refine ⟨fun z => ?_, fun z => ?_⟩
  · rw [z, e1] at e
    cases e
    rcases h with ⟨_, z⟩ | ⟨_, _, z⟩ <;> cases z
  · rw [z, e2] at e
    cases e
    rcases h with ⟨_, z⟩ | ⟨_, _, z⟩ <;> cases z
theorem Gen.tk {d g c : Addr} {t : Nat} {H H' : Hp} (G : Gen d g c t H) (k : Kn d g H H') : TupK H H' := fun b o e h => by
  obtain ⟨n1, n2⟩ := G.tup e h
  exact k b o n1 n2 e (by
    rintro ps rfl
    rcases h with ⟨_, z⟩ | ⟨_, _, z⟩ <;> cases z)
theorem Gen.tkh {d g c : Addr} {t : Nat} {H : Hp} (G : Gen d g c t H) : TupK H (hid [d, g] H) := fun b o e h => by
  obtain ⟨n1, n2⟩ := G.tup e h
  exact hid_get n1 n2 e
theorem Wd.off {TT : List (Addr × Str)} {d g c p : Addr} {zs : List V} {o : HO} {t : Nat} {H : Hp} (w : Wd TT d g c t H) (e : H p = some (.lst zs)) (hd : p ≠ d) (hg : p ≠ g) (hc : p ≠ c) : Wd TT d g c t (upd H p o) := ⟨w.G.off hd hg hc, tabs_offL w.T e⟩
/-- a term of these signs -/
structure Ok (L : List Ln) (g : G) : Prop where
  wf : wfn L g = true
  fine : fine g = true
theorem Ok.shp {L : List Ln} {g : G} (h : Ok L g) : shp g = true := wfn_shp _ g (Nat.le_refl _) h.wf
theorem sz_pts (n : Nat) : ∀ g, dp g ≤ n → shp g = true → sz g ≤ 2 * points g ∧ dp g ≤ deep g + 1 := by
  induction n with
  | zero =>
    intro g h
    have := dp_pos g
    omega
  | succ n ih =>
    intro g hd hs
    rcases shp_cases hs with ⟨x, rfl⟩ | ⟨x, ps, rfl, hp⟩
    · have h1 := points_pos (.s x)
      have h2 := deep_pos (.s x)
      rw [sz_s, dp_s]
      omega
    · have key : ∀ p ∈ ps, sz p ≤ 2 * points p ∧ dp p ≤ deep p + 1 := fun p hm => ih p (dp_mem hd (List.mem_cons_of_mem _ hm)) (hp p hm)
      have h1 : (ps.map sz).sum ≤ (ps.map fun p => 2 * points p).sum := sum_map_le fun p hm => (key p hm).1
      have h2 : (ps.map fun p => 2 * points p).sum = 2 * (ps.map points).sum := by
        rw [← sum_mul, List.map_map]
        rfl
      have h3 : maxl (ps.map dp) ≤ maxl (ps.map deep) + 1 := maxl_le.mpr fun m hm => by
        obtain ⟨p, hp, rfl⟩ := List.mem_map.mp hm
        have h4 := (key p hp).2
        have h5 := le_maxl (List.mem_map.mpr ⟨p, hp, rfl⟩ : deep p ∈ ps.map deep)
        omega
      rw [sz_ts, dp_ts, points_t, deep_t]
      omega
theorem Ok.sz {L : List Ln} {g : G} (h : Ok L g) : sz g ≤ 2 * points g := (sz_pts _ g (Nat.le_refl _) h.shp).1
theorem Ok.dp {L : List Ln} {g : G} (h : Ok L g) : dp g ≤ deep g + 1 := (sz_pts _ g (Nat.le_refl _) h.shp).2
theorem Ok.one {L : List Ln} {x : Str} (h : (find L x).isSome = true) (hf : x.length ≤ 10 ∧ PyData.strOk x = true) : Ok L (.t [.s x]) := by
  refine ⟨by rw [wfn_t, h]; rfl, fine_mk fun p hp => ?_⟩
  rw [List.mem_singleton.mp hp, K1.fine]
  simp [hf.1, hf.2]
theorem Ok.str {L : List Ln} {x : Str} (hf : x.length ≤ 10 ∧ PyData.strOk x = true) : Ok L (.s x) := by
  refine ⟨by rw [wfn], ?_⟩
  rw [K1.fine]
  simp [hf.1, hf.2]
theorem name_strOk {z : Str} (h : nameB z = true) : PyData.strOk z = true := by
  unfold nameB at h
  rw [Bool.and_eq_true, List.all_eq_true] at h
  show z.cps.all (· < 0x110000) = true
  rw [Array.all_eq_true_iff_forall_mem]
  intro c hc
  have := h.2 c (by simpa using hc)
  unfold isLow at this
  rw [decide_eq_true_iff] at this
  rw [decide_eq_true_iff]
  omega
theorem name_fine {z : Str} (h : nameB z = true) : z.length ≤ 10 ∧ PyData.strOk z = true := by
  have := name_len h
  exact ⟨by omega, name_strOk h⟩
abbrev sLeaf : Stmt := topS 63
abbrev nLeaf : List Str := ["_law_state", "_law_lines", "_law_blanks", "_law_picks", "_law_word", "_law_kind", "_law_many"]
/-- a leaf, by its promise of what is drawn -/
def Leaf (K : PySem.W.Frag) (L : List Ln) (H : Hp) (y : V) : Prop := ∃ g, In K H y g ∧ Ok L g ∧ points g = 1 ∧ deep g = 1 ∧ Std L g
theorem Leaf.tk {K : PySem.W.Frag} {L : List Ln} {H H' : Hp} {y : V} (h : Leaf K L H y) (s : TupK H H') : Leaf K L H' y := by
  obtain ⟨g, h1, h2, h3⟩ := h
  exact ⟨g, in_tk s _ _ h2.shp h1, h2, h3⟩
structure Blk (bs : List Str) : Prop where
  ne : bs ≠ []
  len : bs.length ≤ 10
  ok : ∀ b ∈ bs, b.length ≤ 10 ∧ PyData.strOk b = true
  gp : ∀ b ∈ bs, gapB b = true
  gb : ∀ b ∈ bs, b ∈ GB
def spLeaf (K : PySem.W.Frag) (TT : List (Addr × Str)) : Sp := fun vs H Q _ => ∃ (d g c ll bl : Addr) (t : Nat) (L : List Ln) (bs : List Str), vs = [.ref d, .ref ll, .ref bl] ∧ Wd TT d g c t H ∧ t + 1 < 2 ^ 30 ∧ Lst K (hid [d, g] H) ll L ∧ LOk L ∧ (L.map (·.1)).Nodup ∧ SqL K (hid [d, g] H) bl (bs.map V.str) ∧ Blk bs ∧
  ∀ v H', Leaf K L H' v → Wd TT d g c (t + 1) H' → Kn d g H H' → Q v H'
section
variable {P : Program} {w : World} {K : PySem.W.Frag} {mg : Str → Option Value} {base : Heap}
theorem scLeaf : FnScope nLeaf ["_law_state", "_law_lines", "_law_blanks"] (defScope sLeaf) := ⟨rfl, rfl, rfl, by decide +kernel, rfl, by decide +kernel, by decide +kernel⟩
theorem ok_leaf {f : Addr} {fd : FuncData} {TT : List (Addr × Str)} (F : Fun K "_law_leaf" "_law_leaf" sLeaf f fd) (DP : Df P w K mg base C8.CX0 "_law_pick" 3 ["_law_state", "_law_picks"] spPick) (T : Ct mg) : FnOk P w K mg base C8.CX0 4 f fd ["_law_state", "_law_lines", "_law_blanks"] (spLeaf K TT) := by
  refine F.ok scLeaf (fun vs H Q E h => ?_) (fun cdv A outer s H vs Q E hr h => ?_)
  · obtain ⟨d, g, c, ll, bl, t, L, bs, rfl, _⟩ := h
    rfl
  · obtain ⟨d, g, c, ll, bl, t, L, bs, rfl, W, ht, hL, ok, hnd, hB, hbs, k⟩ := h
    refine ⟨_, pss_cons (ps_set (i := 3) scLeaf.nd rfl (Or.inl rfl) (pe_lst pa_nil))
      (pss_cons (ps_for PassesOwn.never rfl (pi_list (pv 1)) (pg_tup rfl (pgs_cons (pg_name (i := 4) scLeaf.nd rfl (Or.inl rfl)) (pgs_cons (pg_name (i := 5) scLeaf.nd rfl (Or.inl rfl)) (pgs_cons (pg_name (i := 6) scLeaf.nd rfl (Or.inl rfl)) pgs_nil))))
        (pss_one (ps_if (PW.pt (pw_and (pt_cmpR op_eq (pv 5) pe_str (nomark _)) (pw_and1 (pt_cmpR op_eq (pv 6) pe_int (nomark _)))))
          (pss_one (ps_expr (pe_bm PySem.F.plainAttrs_list PySem.F.slot_list_append PySem.F.type_list_append mt_append (pv 3) (pa_cons (pe_tup (pa_cons (pv 4) pa_nil)) pa_nil)))) pss_nil)))
      (pss_one (ps_ret (pe_df DP hr pass0 (pa_cons (pv 0) (pa_cons (pe_op op_cat (pv 3) (pe_callTy call_list_of (by rfl) T.list boot_list (pa_cons (pv 2) pa_nil))) pa_nil)))))), ?_⟩
    obtain ⟨xs, hx, hd⟩ := hL
    have hxl : xs.length = L.length := by
      have := dpAll_len hd
      rw [List.length_map] at this
      exact this
    have hLl := ok.len
    have hx' : SqL K H ll xs := hid_le.seq hx
    refine ⟨(by show 0 ≤ sizeLine; decide), fun D hD => ?_⟩
    obtain ⟨Dd, Dg⟩ := W.G.nd hD
    have s0 := Same.new (o := .lst []) (Same.refl H) hD
    refine ⟨_, rfl, ll, rfl, ⟨_, s0.seq hx'⟩, for_list (K := K) (a := ll) (xs := xs) (fun i σ H' => ∃ (v4 v5 v6 : Option V) (ys : List V), σ = [some (.ref d), some (.ref ll), some (.ref bl), some (.ref D), v4, v5, v6] ∧ Same H H' ∧ H' D = some (.lst ys) ∧ ys.length ≤ i ∧ ∀ y ∈ ys, Leaf K L H' y)
      ⟨none, none, none, [], rfl, s0, upd_same, Nat.le_refl _, fun y hy => by cases hy⟩ (fun i σ H' _ ⟨_, _, _, _, _, sm, _⟩ => sm.seq hx') ?_ ?_⟩
    · rintro i x σ H' hi ⟨v4, v5, v6, ys, rfl, sm, eD, hyl, hys⟩
      obtain ⟨l, hli, hld⟩ := dpr_at hd hi
      have hlm := List.mem_of_getElem? hli
      have hil := (List.getElem?_eq_some_iff.mp hli).1
      obtain ⟨b, rfl, hb⟩ := row_at (dp_same (hid_le.trans sm) _ _ hld)
      refine ⟨b, _, rfl, hb, rfl, _, _, rfl, _, _, rfl, _, _, rfl, rfl, _, rfl, rfl, _, rfl, ?_⟩
      have stay : ∃ (v4 v5 v6 : Option V) (ys : List V), [some (V.ref d), some (.ref ll), some (.ref bl), some (.ref D), some (V.str l.1), some (V.str l.2.1), some (V.int l.2.2)] = [some (.ref d), some (.ref ll), some (.ref bl), some (.ref D), v4, v5, v6] ∧ Same H H' ∧ H' D = some (.lst ys) ∧ ys.length ≤ i + 1 ∧ ∀ y ∈ ys, Leaf K L H' y := ⟨_, _, _, ys, rfl, sm, eD, Nat.le_succ_of_le hyl, hys⟩
      refine ite2 (fun h1 => ?_) (fun h1 => stay)
      refine ⟨_, rfl, rfl, _, rfl, ?_⟩
      refine ite2 (fun h2 => ?_) (fun h2 => stay)
      refine ⟨_, rfl, .inl ⟨rfl, _, SqL.of eD⟩, _, rfl, (by show 1 ≤ sizeLine; decide), fun q hq => ?_⟩
      have nD : D ≠ q := ne_of_none eD hq
      have sq := Same.new (o := .tup [.str l.1]) (Same.refl H') hq
      refine ⟨D, ys, .ref q, rfl, rfl, sq _ _ eD, by rw [sizeLine_eq]; omega, _, _, _, ys ++ [.ref q], rfl, ?_, upd_same, by rw [List.length_append]; exact Nat.succ_le_succ hyl, fun y hy => ?_⟩
      · exact fun c' o e => by
          rw [upd_ne (ne_of_none e hD)]
          exact sq _ _ (sm _ _ e)
      · have off : TupK H' (upd (upd H' q (.tup [.str l.1])) D (.lst (ys ++ [.ref q]))) := (TupK.of (Ext.of sq)).off (sq _ _ eD)
        rcases List.mem_append.mp hy with hy | hy
        · exact (hys y hy).tk off
        · rw [List.mem_singleton.mp hy]
          have hfs : (find L l.1).isSome = true := by
            cases e : find L l.1 with
            | none => exact absurd (List.mem_map.mpr ⟨l, hlm, rfl⟩) (find_none.mp e)
            | some _ => rfl
          exact ⟨.t [.s l.1], .t (SqT.of (by rw [upd_ne nD.symm, upd_same])) (.cons (.s _) .nil), Ok.one hfs (name_fine (ok.nm l hlm)), by rw [points_t]; rfl, by rw [deep_t]; rfl, std_one (find_nd hnd hlm) (V.str.inj (of_decide_eq_true h1)) (by have := V.int.inj (of_decide_eq_true h2); omega)⟩
    · rintro σ H' ⟨v4, v5, v6, ys, rfl, sm, eD, hyl, hys⟩
      have hB' : SqL K H' bl (bs.map V.str) := (hid_le.trans sm).seq hB
      have hbl := hbs.len
      have hbn := hbs.ne
      refine ⟨_, rfl, _, rfl, _, rfl, bl, _, rfl, .inl hB', fun l2 hl2 => ?_⟩
      have s2 := Same.new (o := .lst (bs.map V.str)) (Same.refl H') hl2
      refine ⟨D, l2, ys, _, rfl, rfl, s2 _ _ eD, upd_same, by rw [List.length_map, sizeLine_eq]; omega, fun p hp => ?_⟩
      have s3 := Same.new (o := .lst (ys ++ bs.map V.str)) s2 hp
      have sA := sm.trans s3
      have WA := W.same sA
      obtain ⟨pd, pg⟩ := (W.same (sm.trans s2)).G.nd hp
      refine ⟨d, g, c, p, t, _, rfl, WA.G, by omega, upd_same, pg, ?_, ?_, fun v H2 hv G2 k2 => ?_⟩
      · intro z
        have := congrArg List.length z
        simp at this
        exact hbn this.2
      · rw [List.length_append, List.length_map]
        omega
      · refine k v H2 ?_ (WA.kp G2 k2) ((Kn.same sA).trans (.kp k2))
        rcases List.mem_append.mp hv with hv | hv
        · exact (hys v hv).tk ((TupK.of (Ext.of s3)).trans (WA.G.tk (.kp k2)))
        · obtain ⟨b, hb, rfl⟩ := List.mem_map.mp hv
          exact ⟨.s b, .s b, Ok.str (hbs.ok b hb), by simp [points], by simp [deep], std_str (hbs.gp b hb) (hbs.gb b hb)⟩
end
end K1
set_option Elab.async false
set_option linter.all false
set_option maxRecDepth 100000
set_option maxHeartbeats 2000000
namespace K1
open PySem PySem.Spec PyProof.Rows L2
open PySem.W (EachIs)
theorem Kn.updD {d g p : Addr} {o : HO} {H H1 : Hp} (a : Kn d g H H1) (h : H p = none) : Kn d g H (upd H1 p o) := fun x u h1 h2 e n => by
  rw [upd_ne (ne_of_none e h)]
  exact a x u h1 h2 e n
theorem hid_got {d g x : Addr} {H : Hp} {o : HO} (e : hid [d, g] H x = some o) : x ≠ d ∧ x ≠ g ∧ H x = some o := by
  unfold hid at e
  by_cases h : x ∈ [d, g]
  · rw [if_pos h] at e
    cases e
  · rw [if_neg h] at e
    simp only [List.mem_cons, List.not_mem_nil, or_false, not_or] at h
    exact ⟨h.1, h.2, e⟩
/-- lines and blanks stand -/
structure Sd (K : PySem.W.Frag) (d g ll bl : Addr) (L : List Ln) (bs : List Str) (xs : List V) (H : Hp) : Prop where
  hx : hid [d, g] H ll = some (.lst xs)
  hd : DpAll K (hid [d, g] H) xs (L.map rowD)
  hb : hid [d, g] H bl = some (.lst (bs.map V.str))
  ok : LOk L
  nd : (L.map (·.1)).Nodup
  ne : L ≠ []
  bk : Blk bs
theorem Sd.kn {K : PySem.W.Frag} {d g ll bl : Addr} {L : List Ln} {bs : List Str} {xs : List V} {H H' : Hp} (s : Sd K d g ll bl L bs xs H) (k : Kn d g H H') : Sd K d g ll bl L bs xs H' :=
  ⟨k.hid _ _ s.hx (by intro _ z; cases z), dpr_ext k.hid _ s.hd, k.hid _ _ s.hb (by intro _ z; cases z), s.ok, s.nd, s.ne, s.bk⟩
theorem Sd.len {K : PySem.W.Frag} {d g ll bl : Addr} {L : List Ln} {bs : List Str} {xs : List V} {H : Hp} (s : Sd K d g ll bl L bs xs H) : xs.length = L.length := by
  have := dpAll_len s.hd
  rw [List.length_map] at this
  exact this
theorem Sd.lst {K : PySem.W.Frag} {d g ll bl : Addr} {L : List Ln} {bs : List Str} {xs : List V} {H : Hp} (s : Sd K d g ll bl L bs xs H) : Lst K (hid [d, g] H) ll L := ⟨xs, SqL.of s.hx, s.hd⟩
theorem Sd.lstH {K : PySem.W.Frag} {d g ll bl : Addr} {L : List Ln} {bs : List Str} {xs : List V} {H : Hp} (s : Sd K d g ll bl L bs xs H) : Lst K H ll L := s.lst.same hid_le
theorem cut_9 (xs : List V) (h : 10 ≤ xs.length) : cutV xs none (some 9) = xs.take 9 := by
  have e2 : HT.sIx xs.length xs.length (some ((9 : Nat) : Int)) = min 9 xs.length := HT.sIx_nat _ _ _
  unfold cutV
  rw [HT.sIx_none, show (some (9 : Int)) = some ((9 : Nat) : Int) from rfl, e2, Nat.min_eq_left (by omega)]
  rfl
theorem whole_9 (xs : List V) (h : 10 ≤ xs.length) : ¬ (HT.sIx xs.length 0 (none : Option Int) = 0 ∧ HT.sIx xs.length xs.length (some 9) = xs.length) := by
  have e2 : HT.sIx xs.length xs.length (some ((9 : Nat) : Int)) = min 9 xs.length := HT.sIx_nat _ _ _
  rw [show (some (9 : Int)) = some ((9 : Nat) : Int) from rfl, e2]
  omega
theorem sum_takeLe (ns : List Nat) (i : Nat) : (ns.take i).sum ≤ ns.sum := by
  have h2 : ns = ns.take i ++ ns.drop i := (List.take_append_drop _ _).symm
  have : ns.sum = (ns.take i).sum + (ns.drop i).sum := by
    conv => lhs; rw [h2]
    rw [List.sum_append]
  omega
theorem maxl_take (ns : List Nat) (i : Nat) : maxl (ns.take i) ≤ maxl ns := maxl_le.mpr fun n hn => le_maxl (List.mem_of_mem_take hn)
theorem Ok.mk' {L : List Ln} {x : Str} {ps : List G} (hx : (find L x).isSome = true) (hf : x.length ≤ 10 ∧ PyData.strOk x = true) (hp : ∀ p ∈ ps, Ok L p) : Ok L (.t (.s x :: ps)) := by
  refine ⟨by rw [wfn_t, hx, Bool.true_and, List.all_eq_true]; exact fun p h => (hp p h).wf, fine_mk fun p h => ?_⟩
  rcases List.mem_cons.mp h with rfl | h
  · rw [K1.fine]
    simp [hf.1, hf.2]
  · exact (hp p h).fine
theorem Ok.parts {L : List Ln} {x : Str} {ps : List G} (h : Ok L (.t (.s x :: ps))) : (find L x).isSome = true ∧ (x.length ≤ 10 ∧ PyData.strOk x = true) ∧ ∀ p ∈ ps, Ok L p := by
  have h1 := h.wf
  have h2 := h.fine
  rw [wfn_t, Bool.and_eq_true, List.all_eq_true] at h1
  rw [fine_t, List.all_cons, Bool.and_eq_true, List.all_eq_true, K1.fine] at h2
  refine ⟨h1.1, by simpa using h2.1, fun p hp => ⟨h1.2 p hp, h2.2 p hp⟩⟩
theorem Ok.laid {L : List Ln} {g : G} (h : Ok L g) : Ok L (laid L g) := ⟨wfn_laid _ _ (Nat.le_refl _) h.wf, (laid_less (K1.dp g) g (Nat.le_refl _) h.shp h.fine).fine⟩
/-- a term of so many points at most, so deep at most -/
def TermIn (K : PySem.W.Frag) (L : List Ln) (r h : Nat) (H : Hp) (y : V) : Prop := ∃ g, In K H y g ∧ Ok L g ∧ points g ≤ max 1 r ∧ deep g ≤ max 1 h ∧ Std L g
theorem TermIn.tk {K : PySem.W.Frag} {L : List Ln} {r h : Nat} {H H' : Hp} {y : V} (q : TermIn K L r h H y) (s : TupK H H') : TermIn K L r h H' y := by
  obtain ⟨g, h1, h2, h3⟩ := q
  exact ⟨g, in_tk s _ _ h2.shp h1, h2, h3⟩
theorem terms_in {K : PySem.W.Frag} {L : List Ln} {r h : Nat} {H : Hp} : ∀ {ys : List V}, (∀ y ∈ ys, TermIn K L r h H y) → ∃ gs, InL K H ys gs ∧ (∀ g ∈ gs, Ok L g) ∧ (gs.map points).sum ≤ ys.length * max 1 r ∧ maxl (gs.map deep) ≤ max 1 h ∧ ∀ g ∈ gs, Std L g
  | [], _ => ⟨[], .nil, fun _ z => absurd z (by simp), Nat.zero_le _, Nat.zero_le _, fun _ z => absurd z (by simp)⟩
  | y :: ys, q => by
    obtain ⟨g, h1, h2, h3, h4, h5⟩ := q y List.mem_cons_self
    obtain ⟨gs, i1, i2, i3, i4, i5⟩ := terms_in (ys := ys) fun z hz => q z (List.mem_cons_of_mem _ hz)
    refine ⟨g :: gs, .cons h1 i1, fun z hz => ?_, ?_, ?_, ?_⟩
    · rcases List.mem_cons.mp hz with rfl | hz
      · exact h2
      · exact i2 z hz
    · rw [List.map_cons, List.sum_cons, List.length_cons, Nat.add_mul, Nat.one_mul]
      omega
    · exact Nat.max_le.mpr ⟨h4, i4⟩
    · intro z hz
      rcases List.mem_cons.mp hz with rfl | hz
      · exact h5
      · exact i5 z hz
abbrev sLTerm : Stmt := topS 64
abbrev nLTerm : List Str := ["_law_state", "_law_lines", "_law_blanks", "_law_room", "_law_height", "_law_word", "_law_kind", "_law_many", "_law_size", "_law_share", "_law_inner", "_law_k", "_law_found"]
def spTerm (K : PySem.W.Frag) (TT : List (Addr × Str)) (n : Nat) : Sp := fun vs H Q _ => ∃ (d g c ll bl : Addr) (t : Nat) (L : List Ln) (bs : List Str) (xs : List V) (r h : Nat), vs = [.ref d, .ref ll, .ref bl, .int r, .int h] ∧ Wd TT d g c t H ∧ Sd K d g ll bl L bs xs H ∧ t + 6 ^ (n + 1) < 2 ^ 30 ∧ r ≤ 1000 ∧ h ≤ 20 ∧ h < n ∧
  ∀ v H', TermIn K L r h H' v → Wd TT d g c (t + 6 ^ (n + 1)) H' → Kn d g H H' → Q v H'
section
variable {P : Program} {w : World} {K : PySem.W.Frag} {mg : Str → Option Value} {base : Heap}
theorem scLTerm : FnScope nLTerm ["_law_state", "_law_lines", "_law_blanks", "_law_room", "_law_height"] (defScope sLTerm) := ⟨rfl, rfl, rfl, by decide +kernel, rfl, by decide +kernel, by decide +kernel⟩
theorem ok_term' {f : Addr} {fd : FuncData} {TT : List (Addr × Str)} {n m N : Nat} (F : Fun K "_law_term" "_law_term" sLTerm f fd) (IH : Df P w K mg base C8.CX0 "_law_term" m ["_law_state", "_law_lines", "_law_blanks", "_law_room", "_law_height"] (spTerm K TT n))
    (DT : Df P w K mg base C8.CX0 "_law_take" 2 ["_law_state", "_law_size"] spTake) (DP : Df P w K mg base C8.CX0 "_law_pick" 3 ["_law_state", "_law_picks"] spPick) (DF : Df P w K mg base C8.CX0 "_law_leaf" 4 ["_law_state", "_law_lines", "_law_blanks"] (spLeaf K TT))
    {q : Nat} (DL : Df P w K mg base C8.CX0 "_law_laid" q ["_law_kinds_here", "_law_tree"] (spLLaid K TT N)) (DK : Df P w K mg base C8.CX0 "_law_kinds" 1 ["_law_lines"] (spKinds K)) (T : Ct mg) (hm : 4 ≤ m) (hq : q ≤ m) (hN : 30 ≤ N) :
    FnOk P w K mg base C8.CX0 (m + 1) f fd ["_law_state", "_law_lines", "_law_blanks", "_law_room", "_law_height"] (spTerm K TT (n + 1)) := by
  refine F.ok scLTerm (fun vs H Q E h => ?_) (fun cdv A outer s H vs Q E hr h => ?_)
  · obtain ⟨d, g, c, ll, bl, t, L, bs, xs, r, h, rfl, _⟩ := h
    rfl
  · obtain ⟨d, g, c, ll, bl, t, L, bs, xs, r, h, rfl, W, S, ht, hr1, hh1, hh2, k⟩ := h
    have hr4 : Room 4 _ := hr.mono hm
    have hrq : Room q _ := hr.mono hq
    refine ⟨_, pss_cons (ps_if (PW.pt (pw_or (pt_cmpR op_lt (pv 3) pe_int (nomark _)) (pw_or (pt_cmpR op_lt (pv 4) pe_int (nomark _)) (pw_or1 (pt_cmpR op_eq (pe_df DT hr4 pass0 (pa_cons (pv 0) (pa_cons pe_int pa_nil))) pe_int (nomark _)))))) (pss_one (ps_ret (pe_df DF hr4 pass0 (pa_cons (pv 0) (pa_cons (pv 1) (pa_cons (pv 2) pa_nil)))))) pss_nil)
      (pss_cons (ps_asg (pe_df DP hr4 pass0 (pa_cons (pv 0) (pa_cons (pv 1) pa_nil))) (pg_tup rfl (pgs_cons (pg_name (i := 5) scLTerm.nd rfl (Or.inl rfl)) (pgs_cons (pg_name (i := 6) scLTerm.nd rfl (Or.inl rfl)) (pgs_cons (pg_name (i := 7) scLTerm.nd rfl (Or.inl rfl)) pgs_nil)))))
      (pss_cons (ps_set (i := 8) scLTerm.nd rfl (Or.inl rfl) (pv 7))
      (C8.pss_cut (ps_if (pt_cmpR (op_inT (units65 hr)) (pv 6) (pe_tup (pa_cons pe_str (pa_cons pe_str pa_nil))) (by rfl)) (pss_one (ps_set (i := 8) scLTerm.nd rfl (Or.inl rfl) (pe_callB (call_min2 rfl) (by rfl) T.min (by decide +kernel) (pa_cons (pe_op op_add pe_int (pe_df DT hr4 pass0 (pa_cons (pv 0) (pa_cons pe_int pa_nil)))) (pa_cons (pe_op op_sub (pv 3) pe_int) pa_nil))))) pss_nil)
      (pss_cons (ps_if (PW.pt (pw_or (pt_cmpR op_eq (pv 8) pe_int (nomark _)) (pw_or1 (pt_cmpR op_gt (pv 8) (pe_op op_sub (pv 3) pe_int) (nomark _))))) (pss_one (ps_ret (pe_df DF hr4 pass0 (pa_cons (pv 0) (pa_cons (pv 1) (pa_cons (pv 2) pa_nil)))))) pss_nil)
      (C8.pss_cut (ps_if (PW.pt (pw_and (pt_cmpR op_ne (pv 6) pe_str (nomark _)) (pw_and1 (pt_cmpR op_lt (pv 8) pe_int (nomark _))))) (pss_one (ps_ret (pe_df DF hr4 pass0 (pa_cons (pv 0) (pa_cons (pv 1) (pa_cons (pv 2) pa_nil)))))) pss_nil)
      (pss_cons (ps_set (i := 9) scLTerm.nd rfl (Or.inr rfl) (pe_op op_fdivN (pe_op op_sub (pv 3) pe_int) (pv 8)))
      (pss_cons (ps_setLc (i := 10) (own := [("_law_k", 11)]) (g := gName 11) (tt := tYes) rfl scLTerm.nd rfl rfl (sw_true rfl rfl rfl (by decide +kernel)) (pi_range1 rfl T.range (pa_cons (pv 8) pa_nil)) (blkOk_by (N := nLTerm) (sc := defScope sLTerm) (by decide +kernel)) (fun _ _ _ _ _ => pg_name (i := 11) scLTerm.nd rfl (Or.inl rfl)) (fun _ _ _ _ _ => pts_nil)
        (fun _ _ _ _ _ => pe_df IH hr pass0 (pa_cons (pv 0) (pa_cons (pv 1) (pa_cons (pv 2) (pa_cons (pv 9) (pa_cons (pe_op op_sub (pv 4) pe_int) pa_nil))))) (Nat.le_refl _)))
      (pss_cons (ps_set (i := 12) scLTerm.nd rfl (Or.inl rfl) (pe_df DL hrq pass0 (pa_cons (pe_df DK hr4 pass0 (pa_cons (pv 1) pa_nil)) (pa_cons (pe_op op_catT (pe_tup (pa_cons (pv 5) pa_nil)) (pe_callTy call_tuple_of (by rfl) T.tuple boot_tuple (pa_cons (pv 10) pa_nil))) pa_nil)) (Nat.le_refl _)))
      (pss_one (ps_ret (pe_ifExp (pt_cmpR op_lt (pe_callB call_len (by rfl) T.len PySem.boot_len (pa_cons (pv 12) pa_nil)) pe_int (nomark _)) (pv 12) (pe_slice sl_tup (pv 12) po_none (po_some pe_int))))))))))))), ?_⟩
    have hB : 6 ^ (n + 1 + 1) = 5 * 6 ^ (n + 1) + 6 ^ (n + 1) := by rw [Nat.pow_succ]; omega
    have hB6 : 6 ≤ 6 ^ (n + 1) := by
      have : 6 ^ 1 ≤ 6 ^ (n + 1) := Nat.pow_le_pow_right (by decide) (by omega)
      simpa using this
    generalize hBn : 6 ^ (n + 1) = B at *
    rw [hB] at ht k
    have leaf : ∀ (H1 : Hp) (t1 : Nat), Wd TT d g c t1 H1 → Kn d g H H1 → t1 + 1 ≤ t + (5 * B + B) → spLeaf K TT [.ref d, .ref ll, .ref bl] H1 Q E := fun H1 t1 W1 k1 h1 => by
      have S1 := S.kn k1
      refine ⟨d, g, c, ll, bl, t1, L, bs, rfl, W1, by omega, S1.lst, S1.ok, S1.nd, SqL.of S1.hb, S1.bk, fun v H' hv W2 k2 => k v H' ?_ (W2.mono h1) (k1.trans k2)⟩
      obtain ⟨gg, a1, a2, a3, a4, a5⟩ := hv
      exact ⟨gg, a1, a2, by omega, by omega, a5⟩
    refine ⟨_, rfl, _, _, rfl, rfl, _, rfl, ?_⟩
    refine ite2 (fun h1 => ⟨_, rfl, _, rfl, _, rfl, leaf H t W Kn.refl (by omega)⟩) (fun h1 => ?_)
    rw [decide_eq_true_iff] at h1
    refine ⟨_, rfl, _, _, rfl, rfl, _, rfl, ?_⟩
    refine ite2 (fun h2 => ⟨_, rfl, _, rfl, _, rfl, leaf H t W Kn.refl (by omega)⟩) (fun h2 => ?_)
    rw [decide_eq_true_iff] at h2
    refine ⟨_, rfl, d, g, c, t, 5, rfl, W.G, by omega, by decide, by decide, fun u1 H1 u10 u11 G1 k1 => ⟨rfl, _, rfl, ?_⟩⟩
    have W1 := W.kp G1 k1
    have n1 := Kn.kp k1
    refine ite2 (fun h3 => ⟨_, rfl, _, rfl, _, rfl, leaf H1 _ W1 n1 (by omega)⟩) (fun h3 => ?_)
    have S1 := S.kn n1
    obtain ⟨l1, l2, l3⟩ := hid_got S1.hx
    have hxl := S1.len
    have hLl := S1.ok.len
    refine ⟨_, rfl, _, rfl, d, g, c, ll, _, xs, rfl, G1, by omega, l3, l2, fun z => S1.ne (List.eq_nil_of_length_eq_zero (by rw [← hxl, z]; rfl)), by omega, fun x H2 hxm G2 k2 => ?_⟩
    have W2 := W1.kp G2 k2
    have n2 := n1.trans (Kn.kp k2)
    have S2 := S.kn n2
    obtain ⟨i, hi⟩ := List.getElem?_of_mem hxm
    obtain ⟨l, hli, hld⟩ := dpr_at S2.hd hi
    have hlm := List.mem_of_getElem? hli
    obtain ⟨b, rfl, hb⟩ := row_at (dp_same hid_le _ _ hld)
    obtain ⟨sk, _, _, _⟩ := kinds_ok _ (S.ok.kd l hlm)
    have hsm := S.ok.sm l hlm
    have hfs : (find L l.1).isSome = true := by
      cases e : find L l.1 with
      | none => exact absurd (List.mem_map.mpr ⟨l, hlm, rfl⟩) (find_none.mp e)
      | some _ => rfl
    have hnf := name_fine (S.ok.nm l hlm)
    refine ⟨b, _, rfl, hb, rfl, _, _, rfl, _, _, rfl, _, _, rfl, rfl, _, rfl, ?_⟩
    refine ⟨fun σ' H3 => ∃ z : Nat, σ' = [some (.ref d), some (.ref ll), some (.ref bl), some (.int r), some (.int h), some (.str l.1), some (.str l.2.1), some (.int l.2.2), some (.int z), none, none, none, none] ∧ z ≤ 5 ∧ (rowish l.2.1 = false → z = l.2.2) ∧ Wd TT d g c (t + 3) H3 ∧ Kn d g H H3, ?_, ?_⟩
    · refine ⟨_, rfl, (by show 2 ≤ sizeLine; decide), fun p hp => ⟨.str l.2.1, [.str "row", .str "heap"], .str _, .tup (SqT.of upd_same) (.cons (.str _) (.cons (.str _) .nil)), sk, by decide +kernel, _, rfl, ?_⟩⟩
      have W3 := W2.new (o := .tup [.str "row", .str "heap"]) hp
      have n3 := n2.new (o := .tup [.str "row", .str "heap"]) hp
      refine ite2 (fun h4 => ?_) (fun h4 => ⟨l.2.2, rfl, by omega, fun _ => rfl, W3.mono (by omega), n3⟩)
      refine ⟨_, rfl, d, g, c, _, 4, rfl, W3.G, by omega, by decide, by decide, fun u2 H4 u20 u21 G4 k4 => ⟨_, _, rfl, rfl, _, rfl, _, _, rfl, rfl, _, _, rfl, ?_⟩⟩
      have W4 := W3.kp G4 k4
      refine ⟨(if (r : Int) - 1 < 2 + u2 then (r : Int) - 1 else 2 + u2).toNat, ?_, by split <;> omega, (fun z => by rw [show rowish l.2.1 = true from h4] at z; cases z), W4.mono (by omega), n3.trans (Kn.kp k4)⟩
      have : (((if (r : Int) - 1 < 2 + u2 then (r : Int) - 1 else 2 + u2).toNat : Nat) : Int) = (if (r : Int) - 1 < 2 + u2 then (r : Int) - 1 else 2 + u2) := by
        rw [Int.toNat_of_nonneg]
        split <;> omega
      rw [this]
      rfl
    · rintro σ' H3 ⟨z, rfl, hz5, hzk, W3, n3⟩
      refine ⟨_, rfl, rfl, _, rfl, ?_⟩
      refine ite2 (fun h5 => ⟨_, rfl, _, rfl, _, rfl, leaf H3 _ W3 n3 (by omega)⟩) (fun h5 => ?_)
      have hz0 : z ≠ 0 := fun e => h5 (by rw [e]; rfl)
      refine ⟨_, rfl, _, rfl, _, _, rfl, rfl, _, _, rfl, rfl, _, rfl, ?_⟩
      refine ite2 (fun h6 => ⟨_, rfl, _, rfl, _, rfl, leaf H3 _ W3 n3 (by omega)⟩) (fun h6 => ?_)
      have h6' : (z : Int) ≤ (r : Int) - 1 := by simpa using h6
      refine ⟨fun σ' H' => σ' = [some (.ref d), some (.ref ll), some (.ref bl), some (.int r), some (.int h), some (.str l.1), some (.str l.2.1), some (.int l.2.2), some (.int z), none, none, none, none] ∧ H' = H3 ∧ (l.2.1 ≠ "plain" → 2 ≤ z), ?_, ?_⟩
      · refine ⟨_, rfl, rfl, _, rfl, ?_⟩
        refine ite2 (fun h7 => ⟨_, rfl, _, _, rfl, rfl, _, rfl, ?_⟩) (fun h7 => ⟨rfl, rfl, fun e => absurd (by simpa using e) (fun e' : l.2.1 ≠ "plain" => h7 (by simpa using e'))⟩)
        exact ite2 (fun h8 => ⟨_, rfl, _, rfl, _, rfl, leaf H3 _ W3 n3 (by omega)⟩) (fun h8 => ⟨rfl, rfl, fun _ => (by
          have h8' : ¬ ((z : Int) < 2) := by simpa using h8
          omega)⟩)
      · rintro σ' H' ⟨rfl, rfl, hz2⟩
        refine ⟨_, rfl, _, _, rfl, rfl, _, rfl, _, _, rfl, rfl, ⟨by omega, by omega⟩, ?_⟩
        have hsh : ((r : Int) - 1).fdiv (z : Int) = (((r - 1) / z : Nat) : Int) := by
          rw [show (r : Int) - 1 = ((r - 1 : Nat) : Int) by omega, Int.fdiv_eq_ediv_of_nonneg _ (by omega)]
          exact (Int.natCast_ediv _ _).symm
        have hsp : z * ((r - 1) / z) ≤ r - 1 := Nat.mul_div_le _ _
        have hs1 : 1 ≤ (r - 1) / z := Nat.div_pos (by omega) (by omega)
        have hs2 : (r - 1) / z ≤ r - 1 := Nat.div_le_self _ _
        generalize hsg : (r - 1) / z = sh at *
        refine ⟨_, rfl, z, rfl, by omega, by omega, fun D hD => ?_⟩
        obtain ⟨Dd, Dg⟩ := W3.G.nd hD
        have Dc := W3.G.nc hD
        have W3D := W3.new (o := .lst []) hD
        have h1h : ((h : Int) - 1) = ((h - 1 : Nat) : Int) := by omega
        refine lc_range (lo := 0) (n := z) (fun i H4 => ∃ ys : List V, H4 D = some (.lst ys) ∧ ys.length = i ∧ Wd TT d g c (t + 3 + i * B) H4 ∧ Kn d g H' H4 ∧ ∀ y ∈ ys, TermIn K L sh (h - 1) H4 y)
          ⟨[], upd_same, rfl, W3D.mono (by omega), (Kn.refl).new hD, fun _ z => absurd z (by simp)⟩ ?_ ?_
        · rintro i H4 hi ⟨ys, eD, hyl, W4, n4, hys⟩
          have hiB : i * B ≤ 4 * B := Nat.mul_le_mul_right _ (by omega)
          refine ⟨rfl, _, rfl, _, rfl, _, rfl, _, rfl, _, rfl, _, _, rfl, rfl, d, g, c, ll, bl, _, L, bs, xs, sh, h - 1, (by show [V.ref d, V.ref ll, V.ref bl, V.int (((r : Int) - 1).fdiv (z : Int)), V.int ((h : Int) - 1)] = _; rw [hsh, h1h]), W4, S.kn (n3.trans n4), by omega, by omega, by omega, by omega, fun v H5 hv W5 k5 => ?_⟩
          have eD5 := k5 D _ Dd Dg eD (by intro _ q; cases q)
          have off : TupK H5 (upd H5 D (.lst (ys ++ [v]))) := (TupK.of (Ext.refl H5)).off eD5
          refine ⟨ys, eD5, by rw [sizeLine_eq]; omega, ys ++ [v], upd_same, by rw [List.length_append, hyl]; rfl, ?_, (n4.trans k5).updD hD, fun y hy => ?_⟩
          · exact (W5.mono (by rw [Nat.add_mul, Nat.one_mul]; omega)).off eD5 Dd Dg Dc
          · rcases List.mem_append.mp hy with hy | hy
            · exact (hys y hy).tk ((W4.G.tk k5).trans off)
            · rw [List.mem_singleton.mp hy]
              exact hv.tk off
        · rintro H4 ⟨ys, eD, hyl, W4, n4, hys⟩
          have hzB : z * B ≤ 5 * B := Nat.mul_le_mul_right _ hz5
          have S4 := S.kn (n3.trans n4)
          refine ⟨_, rfl, ll, L, rfl, S4.lstH, S.ok, S.nd, fun H5 p s5 hp5 => ?_⟩
          refine ⟨_, rfl, (by show 1 ≤ sizeLine; decide), fun q1 hq1 => ?_⟩
          have s6 := Same.new (o := .tup [.str l.1]) s5 hq1
          have eD6 := s6 _ _ eD
          refine ⟨_, rfl, D, ys, rfl, .inl ⟨SqL.of eD6, fun u hu => ?_⟩⟩
          have s7 := Same.new (o := .tup ys) s6 hu
          have nq : q1 ≠ u := fun e => by rw [← e, upd_same] at hu; cases hu
          refine ⟨q1, u, [.str l.1], ys, rfl, rfl, SqT.of (by rw [upd_ne nq, upd_same]), SqT.of upd_same, by simp, by simp only [List.length_cons, List.length_nil]; rw [sizeLine_eq]; omega, fun e => absurd (congrArg List.length e) (by rw [hyl]; simpa using hz0), fun _ p2 hp2 => ?_⟩
          have s8 := Same.new (o := .tup ([.str l.1] ++ ys)) s7 hp2
          have tk8 : TupK H4 _ := TupK.of (Ext.of s8)
          obtain ⟨gs, i1, i2, i3, i4, i5⟩ := terms_in fun y hy => (hys y hy).tk tk8
          have okT : Ok L (.t (.s l.1 :: gs)) := Ok.mk' hfs hnf i2
          rw [hyl] at i3
          have eM : z * max 1 sh = z * sh := by rw [Nat.max_eq_right hs1]
          have hpT : points (.t (.s l.1 :: gs)) ≤ r := by
            rw [points_t]
            omega
          have hdT : deep (.t (.s l.1 :: gs)) ≤ h := by
            rw [deep_t]
            omega
          have hdp := okT.dp
          have hsz := okT.sz
          have W8 := W4.same s8
          refine ⟨p, L, .ref p2, .t (.s l.1 :: gs), rfl, Same.new (o := .tup ([.str l.1] ++ ys)) (Same.new (o := .tup ys) (Same.new (o := .tup [.str l.1]) (Same.refl H5) hq1) hu) hp2 _ _ hp5, S.ok, .t (SqT.of upd_same) (.cons (.s _) i1), okT.wf, okT.fine, by omega, by omega, W8.T, fun H9 v' e9 t9 hv' => ?_⟩
          have W9 := W8.ext e9 t9
          have n9 : Kn d g H H9 := ((n3.trans n4).trans (.same s8)).trans (.ext e9)
          have okL := okT.laid
          have hLs := laid_less (L := L) _ _ (Nat.le_refl _) okT.shp okT.fine
          have hp9 := hLs.pts
          have hd9 := hLs.deep
          have hfl := find_nd S.nd hlm
          have hgl : gs.length = z := by rw [← i1.len, hyl]
          have hsT : stands L (.t (.s l.1 :: gs)) = true := by
            rw [stands_t, Bool.and_eq_true_iff]
            refine ⟨?_, List.all_eq_true.mpr fun p hp => (i5 p hp).st⟩
            simp only [hasParts, hfl, hgl]
            cases er : rowish l.2.1 with
            | true =>
              have : l.2.1 ≠ "plain" := fun e => by rw [e] at er; exact absurd er (by decide +kernel)
              have := hz2 this
              simp only [if_true]
              exact decide_eq_true (by omega)
            | false =>
              simp only [Bool.false_eq_true, if_false]
              exact decide_eq_true (hzk er)
          have em : gs.map (laid L) = gs := (List.map_congr_left fun p hp => (i5 p hp).ld).trans (List.map_id _)
          rw [laid_t, em] at hv' okL hp9 hd9
          generalize has : arr _ _ _ = as at hv' okL hp9 hd9
          have cutS := std_cut S.ok hsT i5 has.symm
          obtain ⟨a9, zs, rfl, hz9, hg9⟩ := hv'.tup
          have hzl := hg9.len
          have hsl := sz_len (.s l.1 :: as)
          have hsA := okL.sz
          refine ⟨_, rfl, .ref a9, zs.length, rfl, .inr ⟨zs, hz9, rfl⟩, _, _, rfl, rfl, _, rfl, ?_⟩
          refine ite2 (fun h9 => ⟨_, rfl, k _ _ ⟨_, hv', okL, by omega, by omega, by
            have h9' : (zs.length : Int) < 10 := by simpa using h9
            rw [List.take_of_length_le (by simp only [List.length_cons] at hzl; omega)] at cutS
            exact cutS⟩ (W9.mono (by omega)) n9⟩) (fun h9 => ?_)
          have h9' : 10 ≤ zs.length := by
            have q0 : ¬ ((zs.length : Int) < 10) := by simpa using h9
            omega
          refine ⟨_, rfl, _, rfl, a9, zs, rfl, hz9, whole_9 zs h9', fun p3 hp3 => ?_⟩
          have sN := Same.new (o := .tup (cutV zs none (some 9))) (Same.refl H9) hp3
          obtain ⟨b1, b2, b3⟩ := okL.parts
          rw [points_t] at hp9
          rw [deep_t] at hd9
          have q1 := sum_takeLe (as.map points) 8
          have q2 := maxl_take (as.map deep) 8
          rw [← List.map_take] at q1 q2
          refine k _ _ ⟨.t (.s l.1 :: as.take 8), .t (SqT.of upd_same) ?_, Ok.mk' b1 b2 fun p hp => b3 p (List.mem_of_mem_take hp), ?_, ?_, cutS⟩ ((W9.same sN).mono (by omega)) (n9.trans (.same sN))
          · have e := (hg9.take 9).same sN
            rw [← cut_9 zs h9'] at e
            exact e
          · rw [points_t]
            omega
          · rw [deep_t]
            omega
end
end K1
set_option Elab.async false
set_option linter.all false
set_option maxRecDepth 100000
set_option maxHeartbeats 2000000
namespace K1
open PySem PySem.Spec PyProof.Rows L2
open PySem.W (EachIs)
theorem cut_to {xs : List V} (n : Nat) (h : n ≤ xs.length) : cutV xs none (some (n : Int)) = xs.take n := by
  unfold cutV
  rw [HT.sIx_none, HT.sIx_nat, Nat.min_eq_left h]
  rfl
theorem cut_fr {xs : List V} (n : Nat) (h : n ≤ xs.length) : cutV xs (some (n : Int)) none = xs.drop n := by
  unfold cutV
  rw [HT.sIx_none, HT.sIx_nat, Nat.min_eq_left h]
  exact List.take_of_length_le (by rw [List.length_drop]; omega)
theorem cut_mid {xs : List V} (n m : Nat) (h : n ≤ m) (hm : m ≤ xs.length) : cutV xs (some (n : Int)) (some (m : Int)) = (xs.drop n).take (m - n) := by
  unfold cutV
  rw [HT.sIx_nat, HT.sIx_nat, Nat.min_eq_left hm, Nat.min_eq_left (by omega)]
theorem sum3 (ns : List Nat) (a e : Nat) (h : a ≤ e) : (ns.take a).sum + ((ns.drop a).take (e - a)).sum + (ns.drop e).sum = ns.sum := by
  have h1 : ns.sum = (ns.take a).sum + (ns.drop a).sum := by
    conv => lhs; rw [← List.take_append_drop a ns]
    rw [List.sum_append]
  have h2 : (ns.drop a).sum = ((ns.drop a).take (e - a)).sum + (ns.drop e).sum := by
    conv => lhs; rw [← List.take_append_drop (e - a) (ns.drop a)]
    rw [List.sum_append, List.drop_drop, show a + (e - a) = e by omega]
  omega
theorem inL_perm {K : PySem.W.Frag} {H : Hp} {ys zs : List V} (p : ys.Perm zs) : ∀ {gs : List G}, InL K H ys gs → ∃ hs, InL K H zs hs ∧ gs.Perm hs := by
  induction p with
  | nil => intro gs h; exact ⟨gs, h, .refl _⟩
  | cons x _ ih =>
    intro gs h
    cases h with
    | cons h t =>
      obtain ⟨hs, i1, i2⟩ := ih t
      exact ⟨_, .cons h i1, i2.cons _⟩
  | swap x y l =>
    intro gs h
    cases h with
    | cons h t =>
      cases t with
      | cons h' t => exact ⟨_, .cons h' (.cons h t), .swap _ _ _⟩
  | trans _ _ ih1 ih2 =>
    intro gs h
    obtain ⟨hs, i1, i2⟩ := ih1 h
    obtain ⟨ks, j1, j2⟩ := ih2 i1
    exact ⟨ks, j1, i2.trans j2⟩
theorem sum_perm {as bs : List Nat} (p : as.Perm bs) : as.sum = bs.sum := by
  induction p with
  | nil => rfl
  | cons x _ ih => rw [List.sum_cons, List.sum_cons, ih]
  | swap x y l => simp only [List.sum_cons]; omega
  | trans _ _ a b => exact a.trans b
/-- parts of a term, together so many points at most, so deep at most -/
def Pt (K : PySem.W.Frag) (L : List Ln) (n S M : Nat) (Z : List G → Prop) (H : Hp) (ys : List V) : Prop := ∃ gs, InL K H ys gs ∧ gs.length ≤ n ∧ (∀ g ∈ gs, Ok L g) ∧ (gs.map points).sum ≤ S ∧ maxl (gs.map deep) ≤ M ∧ Z gs
theorem Pt.tk {K : PySem.W.Frag} {L : List Ln} {n S M : Nat} {Z : List G → Prop} {H H' : Hp} {ys : List V} (q : Pt K L n S M Z H ys) (s : TupK H H') : Pt K L n S M Z H' ys := by
  obtain ⟨gs, h1, h2, h3, h4⟩ := q
  exact ⟨gs, inL_tk s _ _ (fun g hg => (h3 g hg).shp) h1, h2, h3, h4⟩
theorem Pt.perm {K : PySem.W.Frag} {L : List Ln} {n S M : Nat} {Z Z' : List G → Prop} {H : Hp} {ys zs : List V} (q : Pt K L n S M Z H ys) (p : ys.Perm zs) (hz : ∀ gs hs, gs.Perm hs → Z gs → Z' hs) : Pt K L n S M Z' H zs := by
  obtain ⟨gs, h1, h2, h3, h4, h5, h6⟩ := q
  obtain ⟨hs, i1, i2⟩ := inL_perm p h1
  refine ⟨hs, i1, by rw [← i2.length_eq]; exact h2, fun g hg => h3 g (i2.mem_iff.mpr hg), ?_, ?_, hz _ _ i2 h6⟩
  · rw [← sum_perm (i2.map points)]
    exact h4
  · exact maxl_le.mpr fun m hm => maxl_le.mp h5 m ((i2.map deep).mem_iff.mpr hm)
theorem Pt.len {K : PySem.W.Frag} {L : List Ln} {n S M : Nat} {Z : List G → Prop} {H : Hp} {ys : List V} (q : Pt K L n S M Z H ys) : ys.length ≤ n := by
  obtain ⟨gs, h1, h2, _⟩ := q
  rw [h1.len]
  exact h2
theorem Pt.mono {K : PySem.W.Frag} {L : List Ln} {n S M S' M' : Nat} {Z Z' : List G → Prop} {H : Hp} {ys : List V} (q : Pt K L n S M Z H ys) (h1 : S ≤ S') (h2 : M ≤ M') (hz : ∀ gs, Z gs → Z' gs) : Pt K L n S' M' Z' H ys := by
  obtain ⟨gs, a1, a2, a3, a4, a5, a6⟩ := q
  exact ⟨gs, a1, a2, a3, Nat.le_trans a4 h1, Nat.le_trans a5 h2, hz _ a6⟩
theorem maxl_app (as bs : List Nat) : maxl (as ++ bs) = max (maxl as) (maxl bs) := by
  induction as with
  | nil => simp [maxl]
  | cons a r ih =>
    show max a (maxl (r ++ bs)) = max (max a (maxl r)) (maxl bs)
    rw [ih, Nat.max_assoc]
theorem maxl_drop (ns : List Nat) (i : Nat) : maxl (ns.drop i) ≤ maxl ns := maxl_le.mpr fun n hn => le_maxl (List.mem_of_mem_drop hn)
/-- parts from a up to e put in a row of their own -/
theorem Pt.group {K : PySem.W.Frag} {L : List Ln} {n S M : Nat} {Z Z' : List G → Prop} {H : Hp} {ys : List V} {x : Str} {p : Addr} {a e : Nat} (q : Pt K L n S M Z H ys) (h : a < e) (he : e ≤ ys.length) (hx : (find L x).isSome = true) (hf : x.length ≤ 10 ∧ PyData.strOk x = true)
    (hp : SqT K H p (.str x :: (ys.drop a).take (e - a))) (hz : ∀ gs, gs.length = ys.length → Z gs → Z' (gs.take a ++ [.t (.s x :: (gs.drop a).take (e - a))] ++ gs.drop e)) : Pt K L n (S + 1) (M + 1) Z' H (ys.take a ++ [.ref p] ++ ys.drop e) := by
  obtain ⟨gs, a1, a2, a3, a4, a5, a6⟩ := q
  have hl := a1.len
  refine ⟨gs.take a ++ [.t (.s x :: (gs.drop a).take (e - a))] ++ gs.drop e, ((a1.take a).app (.cons (.t hp (.cons (.s x) ((a1.drop a).take (e - a)))) .nil)).app (a1.drop e), ?_, fun g hg => ?_, ?_, ?_, hz gs hl.symm a6⟩
  · simp only [List.length_append, List.length_take, List.length_drop, List.length_cons, List.length_nil]
    omega
  · rcases List.mem_append.mp hg with hg | hg
    · rcases List.mem_append.mp hg with hg | hg
      · exact a3 g (List.mem_of_mem_take hg)
      · rw [List.mem_singleton.mp hg]
        exact Ok.mk' hx hf fun p hp => a3 p (List.mem_of_mem_drop (List.mem_of_mem_take hp))
    · exact a3 g (List.mem_of_mem_drop hg)
  · have := sum3 (gs.map points) a e (by omega)
    rw [List.map_append, List.map_append, List.sum_append, List.sum_append, List.map_cons, List.map_nil, points_t, List.map_take, List.map_drop, List.map_take, List.map_drop]
    simp only [List.sum_cons, List.sum_nil]
    omega
  · have h1 := maxl_take (gs.map deep) a
    have h2 := maxl_drop (gs.map deep) e
    have h3 := maxl_take ((gs.map deep).drop a) (e - a)
    have h4 := maxl_drop (gs.map deep) a
    rw [List.map_append, List.map_append, maxl_app, maxl_app, List.map_cons, List.map_nil, deep_t, List.map_take, List.map_drop, List.map_take, List.map_drop]
    show max (max _ (max _ 0)) _ ≤ _
    omega
/-- the same term otherwise told -/
def LRes (K : PySem.W.Frag) (L : List Ln) (g : G) (H : Hp) (y : V) : Prop := ∃ g', In K H y g' ∧ Ok L g' ∧ points g' ≤ 2 * points g ∧ deep g' ≤ 2 * deep g ∧ Dft L g g'
theorem LRes.tk {K : PySem.W.Frag} {L : List Ln} {g : G} {H H' : Hp} {y : V} (q : LRes K L g H y) (s : TupK H H') : LRes K L g H' y := by
  obtain ⟨g, h1, h2, h3⟩ := q
  exact ⟨g, in_tk s _ _ h2.shp h1, h2, h3⟩
theorem lres_pt {K : PySem.W.Frag} {L : List Ln} {H : Hp} : ∀ {ys : List V} {gs : List G}, EachIs (fun y g => LRes K L g H y) ys gs → Pt K L gs.length (2 * (gs.map points).sum) (2 * maxl (gs.map deep)) (fun hs => hs.map (laid L) = gs.map (laid L) ∧ ∀ h ∈ hs, stands L h = true) H ys
  | _, _, .nil => ⟨[], .nil, Nat.le_refl _, fun _ z => absurd z (by simp), Nat.le_refl _, Nat.le_refl _, rfl, fun _ z => absurd z (by simp)⟩
  | _, _, .cons (a := y) (b := g) h t => by
    obtain ⟨g', h1, h2, h3, h4, h5⟩ := h
    obtain ⟨gs', i1, i2, i3, i4, i5, i6, i7⟩ := lres_pt t
    refine ⟨g' :: gs', .cons h1 i1, Nat.succ_le_succ i2, fun z hz => ?_, ?_, ?_, by rw [List.map_cons, List.map_cons, h5.ld, i6], fun z hz => ?_⟩
    · rcases List.mem_cons.mp hz with rfl | hz
      · exact h2
      · exact i3 z hz
    · rw [List.map_cons, List.sum_cons, List.map_cons, List.sum_cons]
      omega
    · rw [List.map_cons, List.map_cons]
      show max _ _ ≤ 2 * max _ _
      have e1 : maxl (gs'.map deep) = (gs'.map deep).foldr max 0 := rfl
      unfold maxl at i5
      omega
    · rcases List.mem_cons.mp hz with rfl | hz
      · exact h5.st
      · exact i7 z hz
abbrev sLoose : Stmt := topS 65
abbrev nLoose : List Str := ["_law_state", "_law_kinds_here", "_law_tree", "_law_kind", "_law_inner", "_law_part", "_law_left", "_law_k", "_law_at", "_law_end", "_law_group"]
def tkN (gs : List G) : Nat := (gs.map fun g => 4 * points g - 1).sum
theorem tkN_sum : ∀ gs : List G, tkN gs + gs.length = 4 * (gs.map points).sum
  | [] => rfl
  | g :: gs => by
    have ih := tkN_sum gs
    have := points_pos g
    unfold tkN at ih ⊢
    rw [List.map_cons, List.sum_cons, List.map_cons, List.sum_cons, List.length_cons]
    omega
def spLoose (K : PySem.W.Frag) (TT : List (Addr × Str)) (n : Nat) : Sp := fun vs H Q _ => ∃ (d g c ka : Addr) (t : Nat) (L : List Ln) (v : V) (gg : G), vs = [.ref d, .ref ka, v] ∧ Wd TT d g c t H ∧ hid [d, g] H ka = some (.dK (kd L)) ∧ LOk L ∧ In K H v gg ∧ Ok L gg ∧ stands L gg = true ∧ dp gg ≤ n ∧ sz gg ≤ 1000 ∧ t + 4 * points gg < 2 ^ 30 ∧
  ∀ v' H', LRes K L gg H' v' → Wd TT d g c (t + (4 * points gg - 1)) H' → Kn d g H H' → Q v' H'
theorem pop_perm {α : Type} : ∀ {xs : List α} {k : Nat} {y : α}, xs[k]? = some y → xs.Perm (y :: xs.eraseIdx k)
  | [], k, y, h => by simp at h
  | a :: l, 0, y, h => by
    have e : a = y := by simpa using h
    rw [e]
    exact .refl _
  | a :: l, k + 1, y, h => by
    have := pop_perm (xs := l) (k := k) (y := y) (by simpa using h)
    exact (this.cons a).trans (.swap _ _ _)
theorem pop_len {α : Type} {xs : List α} {k : Nat} {y : α} (h : xs[k]? = some y) : (xs.eraseIdx k).length + 1 = xs.length := by
  have := (pop_perm h).length_eq
  rw [List.length_cons] at this
  exact this.symm
theorem seq_ix {u : Int} {n : Nat} (h0 : 0 ≤ u) (h1 : u < n) : seqIndex? u n = some u.toNat := by
  simp [seqIndex?, show ¬ u < 0 by omega, h0, h1]
theorem Kn.updF {d g p : Addr} {o : HO} {H H0 H1 : Hp} (a : Kn d g H H1) (a0 : Kn d g H H0) (h : H0 p = none) : Kn d g H (upd H1 p o) := fun x u h1 h2 e n => by
  rw [upd_ne (ne_of_none (a0 x u h1 h2 e n) h)]
  exact a x u h1 h2 e n
theorem tkN_snoc {gs : List G} {i : Nat} {g : G} (h : gs[i]? = some g) : tkN (gs.take (i + 1)) = tkN (gs.take i) + (4 * points g - 1) := by
  unfold tkN
  rw [take_snoc h, List.map_append, List.sum_append]
  simp
section
variable {P : Program} {w : World} {K : PySem.W.Frag} {mg : Str → Option Value} {base : Heap}
theorem scLoose : FnScope nLoose ["_law_state", "_law_kinds_here", "_law_tree"] (defScope sLoose) := ⟨rfl, rfl, rfl, by decide +kernel, rfl, by decide +kernel, by decide +kernel⟩
theorem ok_loose {f : Addr} {fd : FuncData} {TT : List (Addr × Str)} {n m : Nat} (F : Fun K "_law_loose" "_law_loose" sLoose f fd) (IH : Df P w K mg base C8.CX0 "_law_loose" m ["_law_state", "_law_kinds_here", "_law_tree"] (spLoose K TT n))
    (DT : Df P w K mg base C8.CX0 "_law_take" 2 ["_law_state", "_law_size"] spTake) (T : Ct mg) (hm : 2 ≤ m) :
    FnOk P w K mg base C8.CX0 (m + 1) f fd ["_law_state", "_law_kinds_here", "_law_tree"] (spLoose K TT (n + 1)) := by
  refine F.ok scLoose (fun vs H Q E h => ?_) (fun cdv A outer s H vs Q E hr h => ?_)
  · obtain ⟨d, g, c, ka, t, L, v, gg, rfl, _⟩ := h
    rfl
  · obtain ⟨d, g, c, ka, t, L, v, gg, rfl, W, hka, ok, hin, okg, hst, hd, hz, ht, k⟩ := h
    have hr2 : Room 2 _ := hr.mono hm
    have hu' := hu_of hr
    refine ⟨_, pss_cons (ps_if (PW.pt (pw_or (pt_val (pe_callB call_isi (by rfl) T.isi boot_isinstance (pa_cons (pv 2) (pa_cons (pe_bltn (v := .ty "str") (by rfl) T.str boot_str rfl) pa_nil)))) (pw_or1 (pt_cmpR op_eq (pe_callB call_len (by rfl) T.len PySem.boot_len (pa_cons (pv 2) pa_nil)) pe_int (nomark _))))) (pss_one (ps_ret (pv 2))) pss_nil)
      (pss_cons (ps_set (i := 3) scLoose.nd rfl (Or.inl rfl) (pe_dget hu' (pv 1) (pe_ix ix_tup (pv 2) pe_int (fun _ _ => rfl)) (fun _ _ => rfl)))
      (pss_cons (ps_setLc (i := 4) (own := [("_law_part", 5)]) (g := gName 5) (tt := tYes) rfl scLoose.nd rfl rfl (sw_true rfl rfl rfl (by decide +kernel)) (pi_tup (pe_slice sl_tup (pv 2) (po_some pe_int) po_none)) (blkOk_by (N := nLoose) (sc := defScope sLoose) (by decide +kernel)) (fun _ _ _ _ _ => pg_name (i := 5) scLoose.nd rfl (Or.inl rfl)) (fun _ _ _ _ _ => pts_nil)
        (fun _ _ _ _ _ => pe_df IH hr pass0 (pa_cons (pv 0) (pa_cons (pv 1) (pa_cons (pv 5) pa_nil))) (Nat.le_refl _)))
      (C8.pss_cut (ps_if (pt_cmpR (op_inT (units65 hr)) (pv 3) (pe_tup (pa_cons pe_str (pa_cons pe_str pa_nil))) (by rfl))
        (pss_cons (ps_par (i := 6) (j := 4) (by rfl) scLoose.nd rfl rfl (by decide) rfl rfl (pa_cons (pv 4) (pa_cons (pe_lst pa_nil) pa_nil)) (by rfl))
        (pss_one (ps_for PassesOwn.never rfl (pi_range1 rfl T.range (pa_cons (pe_callB call_len_seq (by rfl) T.len PySem.boot_len (pa_cons (pv 6) pa_nil)) pa_nil)) (pg_name (i := 7) scLoose.nd rfl (Or.inl rfl))
          (pss_one (ps_expr (pe_bm PySem.F.plainAttrs_list PySem.F.slot_list_append PySem.F.type_list_append mt_append (pv 4) (pa_cons (pe_bm PySem.F.plainAttrs_list PySem.F.slot_list_pop PySem.F.type_list_pop mt_popAt (pv 6) (pa_cons (pe_df DT hr2 pass0 (pa_cons (pv 0) (pa_cons (pe_callB call_len_seq (by rfl) T.len PySem.boot_len (pa_cons (pv 6) pa_nil)) pa_nil))) pa_nil)) pa_nil))))))) pss_nil)
      (C8.pss_cut (ps_if (PW.pt (pw_and (pt_cmpR (op_inT (units65 hr)) (pv 3) (pe_tup (pa_cons pe_str (pa_cons pe_str pa_nil))) (by rfl)) (pw_and (pt_cmpR op_gt (pe_callB call_len_seq (by rfl) T.len PySem.boot_len (pa_cons (pv 4) pa_nil)) pe_int (nomark _)) (pw_and1 (pt_cmpR op_eq (pe_df DT hr2 pass0 (pa_cons (pv 0) (pa_cons pe_int pa_nil))) pe_int (nomark _))))))
        (pss_cons (ps_set (i := 8) scLoose.nd rfl (Or.inl rfl) (pe_df DT hr2 pass0 (pa_cons (pv 0) (pa_cons (pe_op op_sub (pe_callB call_len_seq (by rfl) T.len PySem.boot_len (pa_cons (pv 4) pa_nil)) pe_int) pa_nil))))
        (pss_cons (ps_set (i := 9) scLoose.nd rfl (Or.inl rfl) (pe_op op_add (pe_op op_add (pv 8) pe_int) (pe_df DT hr2 pass0 (pa_cons (pv 0) (pa_cons (pe_op op_sub (pe_op op_sub (pe_callB call_len_seq (by rfl) T.len PySem.boot_len (pa_cons (pv 4) pa_nil)) (pv 8)) pe_int) pa_nil)))))
        (pss_one (ps_if (pt_cmpR op_lt (pe_op op_sub (pv 9) (pv 8)) (pe_callB call_len_seq (by rfl) T.len PySem.boot_len (pa_cons (pv 4) pa_nil)) (by rfl))
          (pss_cons (ps_set (i := 10) scLoose.nd rfl (Or.inl rfl) (pe_op op_catT (pe_tup (pa_cons (pe_ix ix_tup (pv 2) pe_int (fun _ _ => rfl)) pa_nil)) (pe_callTy call_tuple_of (by rfl) T.tuple boot_tuple (pa_cons (pe_slice sl_list (pv 4) (po_some (pv 8)) (po_some (pv 9))) pa_nil))))
          (pss_one (ps_set (i := 4) scLoose.nd rfl (Or.inl rfl) (pe_op op_cat (pe_op op_cat (pe_slice sl_list (pv 4) po_none (po_some (pv 8))) (pe_lst (pa_cons (pv 10) pa_nil))) (pe_slice sl_list (pv 4) (po_some (pv 9)) po_none))))) pss_nil)))) pss_nil)
      (pss_one (ps_ret (pe_op op_catT (pe_tup (pa_cons (pe_ix ix_tup (pv 2) pe_int (fun _ _ => rfl)) pa_nil)) (pe_callTy call_tuple_of (by rfl) T.tuple boot_tuple (pa_cons (pv 4) pa_nil))))))))), ?_⟩
    obtain ⟨dd, t1, t2⟩ := isi_str hin
    refine ⟨_, rfl, _, _, _, _, _, rfl, .ty "str", t1, t2, _, rfl, ?_⟩
    have stay : ∀ Q' : VK, (∀ v' H', LRes K L gg H' v' → Wd TT d g c (t + (4 * points gg - 1)) H' → Kn d g H H' → Q' v' H') → Q' v H := fun Q' q => q v H ⟨gg, hin, okg, by omega, by omega, hst, rfl⟩ (W.mono (by omega)) Kn.refl
    rcases shp_cases okg.shp with ⟨x, rfl⟩ | ⟨y, ps, rfl, hp⟩
    · exact iteT ⟨_, rfl, stay _ k⟩
    refine iteF ?_
    obtain ⟨a, xs, rfl, hx, hg⟩ := hin.tup
    have hlen := hg.len
    have hsl := sz_len (.s y :: ps)
    refine ⟨_, rfl, .ref a, xs.length, rfl, .inr ⟨xs, hx, rfl⟩, rfl, _, rfl, ?_⟩
    refine ite2 (fun _ => ⟨_, rfl, stay _ k⟩) (fun h1 => ?_)
    obtain ⟨v0, e0, h0⟩ := hg.get (i := 0) rfl
    obtain rfl := h0.str
    obtain ⟨b1, b2, b3⟩ := okg.parts
    obtain ⟨ln, hfi⟩ := Option.isSome_iff_exists.mp b1
    obtain ⟨m1, m2⟩ := find_mem hfi
    obtain ⟨sk, _, _, _⟩ := kinds_ok _ (ok.kd ln m1)
    have ekd := kindOf_of hfi
    have hst' := hst
    rw [stands_t, Bool.and_eq_true_iff] at hst'
    have hstp := List.all_eq_true.mp hst'.2
    have gokS : ∀ g, stands L g = true → gok (laid L g) = true := fun g h => gok_laid _ g (Nat.le_refl _) (stands_gok ok _ g (Nat.le_refl _) h)
    have hkv : valV (kd L) (Sum.inr y : Key) = some (.str ln.2.1) := by rw [kd_val, hfi]; rfl
    have hkH : H ka = some (.dK (kd L)) := (hid_got hka).2.2
    have dg0 : DGet H ka (.str y) (some (.str ln.2.1)) := by
      rw [← hkv]
      exact DGet.k (k := Sum.inr y) hkH
    refine ⟨_, rfl, _, rfl, a, xs, 0, _, rfl, rfl, hx, atI_nat (j := 0) e0, ka, _, rfl, dg0, ?_⟩
    refine ⟨_, rfl, _, rfl, a, xs, rfl, hx, whole_1 (ne_nil hg), fun q0 hq => ⟨q0, rfl, ⟨_, SqT.of upd_same⟩, fun D hD => ?_⟩⟩
    have W0 := W.new (o := .tup (cutV xs (some 1) none)) hq
    have s0 := Same.new (o := .tup (cutV xs (some 1) none)) (Same.refl H) hq
    have n0 : Kn d g H _ := .same s0
    have hgd : InL K (upd H q0 (.tup (cutV xs (some 1) none))) (cutV xs (some 1) none) ps := by
      have z := (hg.drop 1).same s0
      rw [← cut_1] at z
      exact z
    obtain ⟨Dd, Dg⟩ := W0.G.nd hD
    have Dc := W0.G.nc hD
    have hpt := points_t (.s y) ps
    have hdt := deep_t (.s y) ps
    have htk := tkN_sum ps
    have hpl : ps.length ≤ 1000 := by simp only [List.length_cons] at hsl; omega
    refine lc_tup (K := K) (a := q0) (xs := cutV xs (some 1) none) (fun i H4 => ∃ ys : List V, H4 D = some (.lst ys) ∧ Wd TT d g c (t + tkN (ps.take i)) H4 ∧ Kn d g (upd H q0 (.tup (cutV xs (some 1) none))) H4 ∧ EachIs (fun y p => LRes K L p H4 y) ys (ps.take i))
      ⟨[], upd_same, (W0.new hD).mono (Nat.le_add_right _ _), Kn.refl.new hD, .nil⟩ (fun i H4 _ ⟨_, _, _, n4, _⟩ => (W0.G.tk n4).sqt (SqT.of upd_same)) ?_ ?_
    · rintro i x H4 hi ⟨ys, eD, W4, n4, hys⟩
      obtain ⟨p, hpi, hpin⟩ := hgd.at hi
      have hpm := List.mem_of_getElem? hpi
      have hpm' : p ∈ G.s y :: ps := List.mem_cons_of_mem _ hpm
      have hst := sum_take (ns := ps.map points) (i := i) (n := points p) (by rw [List.getElem?_map, hpi]; rfl)
      have hti := tkN_sum (ps.take i)
      rw [List.map_take] at hti
      have hyl := hys.length
      rw [List.length_take] at hyl
      refine ⟨rfl, _, rfl, _, rfl, _, rfl, d, g, c, ka, _, L, x, p, rfl, W4, (n0.trans n4).hid _ _ hka (by intro _ z; cases z), ok, in_tk (W0.G.tk n4) _ _ (b3 p hpm).shp hpin, b3 p hpm, hstp p hpm, dp_mem hd hpm', by have := sz_mem hpm'; omega, by omega, fun v' H5 hv W5 n5 => ?_⟩
      have eD5 := n5 D _ Dd Dg eD (by intro _ q; cases q)
      have off : TupK H5 (upd H5 D (.lst (ys ++ [v']))) := (TupK.of (Ext.refl H5)).off eD5
      refine ⟨ys, eD5, by rw [sizeLine_eq]; omega, ys ++ [v'], upd_same, ?_, (n4.trans n5).updD hD, ?_⟩
      · rw [tkN_snoc hpi]
        exact (W5.mono (by omega)).off eD5 Dd Dg Dc
      · rw [take_snoc hpi]
        exact each_app (R := fun y p => LRes K L p _ y) (hv.tk off) (hys.mono fun y p q => q.tk ((W4.G.tk n5).trans off))
    · rintro H4 ⟨ys, eD, W4, n4, hys⟩
      rw [hgd.len, List.take_length] at W4 hys
      have P4 := lres_pt hys
      have n04 := n0.trans n4
      have hyl := hys.length
      generalize hS : 2 * (ps.map points).sum = S at *
      generalize hM : 2 * maxl (ps.map deep) = M at *
      have lenZ : ∀ {hs : List G}, hs.map (laid L) = ps.map (laid L) → hs.length = ps.length := fun {hs} e => by simpa using congrArg List.length e
      refine ⟨fun σ' H5 => ∃ (l : Addr) (ys : List V) (v5 v6 v7 : Option V), σ' = [some (.ref d), some (.ref ka), some (.ref a), some (.str ln.2.1), some (.ref l), v5, v6, v7, none, none, none] ∧ Wd TT d g c (t + tkN ps + ps.length) H5 ∧ Kn d g H H5 ∧ H5 l = some (.lst ys) ∧ Pt K L ps.length S M (fun hs => (∀ h ∈ hs, stands L h = true) ∧ hs.length = ps.length ∧ arr (kindOf L y) y (hs.map (laid L)) = arr (kindOf L y) y (ps.map (laid L))) H5 ys ∧ l ≠ d ∧ l ≠ g, ?_, ?_⟩
      · refine ⟨_, rfl, (by show 2 ≤ sizeLine; decide), fun r hr0 => ⟨.str ln.2.1, [.str "pair", .str "heap"], .str _, .tup (SqT.of upd_same) (.cons (.str _) (.cons (.str _) .nil)), sk, by decide +kernel, _, rfl, ?_⟩⟩
        have s1 := Same.new (o := .tup [.str "pair", .str "heap"]) (Same.refl H4) hr0
        refine ite2 (fun h2 => ?_) (fun h2 => ⟨D, ys, none, none, none, rfl, (W4.same s1).mono (by omega), n04.trans (.same s1), s1 _ _ eD, (P4.tk (TupK.of (Ext.of s1))).mono (Nat.le_refl _) (Nat.le_refl _) fun hs z => ⟨z.2, lenZ z.1, by rw [z.1]⟩, Dd, Dg⟩)
        refine ⟨_, rfl, (by show 0 ≤ sizeLine; decide), fun D2 hD2 => ⟨_, _, rfl, ?_⟩⟩
        have s2 := Same.new (o := .lst []) s1 hD2
        have nDD : D2 ≠ D := fun z => by rw [z, s1 _ _ eD] at hD2; cases hD2
        have W1 := W4.same s1
        obtain ⟨D2d, D2g⟩ := W1.G.nd hD2
        have D2c := W1.G.nc hD2
        have nF : Kn d g H _ := n04.trans (.same s1)
        refine ⟨_, rfl, D, ys, rfl, .inl (SqL.of (s2 _ _ eD)), _, rfl, by omega, by omega, ?_⟩
        refine for_range (lo := 0) (n := ys.length) (fun i σ' H6 => ∃ (zs us : List V) (v7 : Option V), σ' = [some (.ref d), some (.ref ka), some (.ref a), some (.str ln.2.1), some (.ref D2), none, some (.ref D), v7, none, none, none] ∧ H6 D = some (.lst zs) ∧ H6 D2 = some (.lst us) ∧ ys.Perm (zs ++ us) ∧ us.length = i ∧ Wd TT d g c (t + tkN ps + i) H6 ∧ Kn d g H H6 ∧ TupK H4 H6)
          ⟨ys, [], none, rfl, s2 _ _ eD, upd_same, by rw [List.append_nil], rfl, W4.same s2, n04.trans (.same s2), TupK.of (Ext.of s2)⟩ ?_ ?_
        · rintro i σ' H6 hi ⟨zs, us, v7, rfl, eD6, eD26, hpm, hul, W6, n6, tk6⟩
          have hpl2 := hpm.length_eq
          rw [List.length_append] at hpl2
          refine ⟨_, rfl, .inl ⟨rfl, _, SqL.of eD26⟩, _, rfl, .inl ⟨rfl, _, SqL.of eD6⟩, _, rfl, _, rfl, D, zs, rfl, .inl (SqL.of eD6), d, g, c, _, _, rfl, W6.G, by omega, by omega, by omega, fun u H7 u0 u1 G7 k7 => ?_⟩
          have eD7 := k7 D _ Dd Dg eD6
          have eD27 := k7 D2 _ D2d D2g eD26
          have W7 := W6.kp G7 k7
          obtain ⟨y', hy'⟩ : ∃ y', zs[u.toNat]? = some y' := ⟨zs[u.toNat]'(by omega), List.getElem?_eq_getElem (by omega)⟩
          refine ⟨D, zs, u, u.toNat, y', rfl, rfl, eD7, by omega, by omega, seq_ix u0 u1, hy', ?_⟩
          have hpl3 := pop_len hy'
          refine ⟨D2, us, y', rfl, rfl, by rw [upd_ne nDD]; exact eD27, by rw [sizeLine_eq]; omega, zs.eraseIdx u.toNat, us ++ [y'], _, rfl, by rw [upd_ne nDD.symm, upd_same], upd_same, ?_, by rw [List.length_append, hul]; rfl, ?_, ?_, ?_⟩
          · refine hpm.trans (((pop_perm hy').append_right us).trans ?_)
            rw [← List.append_assoc]
            exact (List.perm_append_singleton y' _).symm
          · exact ((W7.mono (by omega)).off eD7 Dd Dg Dc).off (by rw [upd_ne nDD]; exact eD27) D2d D2g D2c
          · exact ((n6.trans (.kp k7)).updF n0 hD).updF nF hD2
          · have tk7 : TupK H4 H7 := tk6.trans (W6.G.tk (.kp k7))
            exact (tk7.off eD7).off (by rw [upd_ne nDD]; exact eD27)
        · rintro σ' H6 ⟨zs, us, v7, rfl, eD6, eD26, hpm, hul, W6, n6, tk6⟩
          have hpl2 := hpm.length_eq
          rw [List.length_append] at hpl2
          have hz0 : zs = [] := List.eq_nil_of_length_eq_zero (by omega)
          rw [hz0, List.nil_append] at hpm
          exact ⟨D2, us, none, _, v7, rfl, W6.mono (by omega), n6, eD26, (P4.tk tk6).perm hpm fun gs hs p z => ⟨fun h hh => z.2 h (p.mem_iff.mpr hh), by rw [← p.length_eq]; exact lenZ z.1, by
            rw [← z.1]
            refine (arr_permL (fun g hg => ?_) (by rw [ekd]; exact h2) (p.map (laid L))).symm
            obtain ⟨q, hq, rfl⟩ := List.mem_map.mp hg
            exact gokS q (z.2 q hq)⟩, D2d, D2g⟩
      · rintro σ' H5 ⟨l, ys5, v5, v6, v7, rfl, W5, n5, eL, P5, ld, lg⟩
        have hl5 := P5.len
        refine ⟨fun σ' H6 => ∃ (l : Addr) (ys : List V) (v5 v6 v7 v8 v9 v10 : Option V), σ' = [some (.ref d), some (.ref ka), some (.ref a), some (.str ln.2.1), some (.ref l), v5, v6, v7, v8, v9, v10] ∧ Wd TT d g c (t + (4 * points (.t (.s y :: ps)) - 1)) H6 ∧ Kn d g H H6 ∧ H6 l = some (.lst ys) ∧ Pt K L ps.length (S + 1) (M + 1) (fun hs => stands L (.t (.s y :: hs)) = true ∧ arr (kindOf L y) y (hs.map (laid L)) = arr (kindOf L y) y (ps.map (laid L))) H6 ys, ?_, ?_⟩
        · refine ⟨_, rfl, (by show 2 ≤ sizeLine; decide), fun r hr0 => ⟨.str ln.2.1, [.str "row", .str "heap"], .str _, .tup (SqT.of upd_same) (.cons (.str _) (.cons (.str _) .nil)), sk, by decide +kernel, _, rfl, ?_⟩⟩
          have s1 := Same.new (o := .tup [.str "row", .str "heap"]) (Same.refl H5) hr0
          have no : ∀ (H6 : Hp) (t6 : Nat) (v8 v9 v10 : Option V), Wd TT d g c t6 H6 → t6 ≤ t + tkN ps + ps.length + 3 → Kn d g H5 H6 → H6 l = some (.lst ys5) → ∃ (l' : Addr) (ys : List V) (w5 w6 w7 w8 w9 w10 : Option V), [some (V.ref d), some (.ref ka), some (.ref a), some (.str ln.2.1), some (.ref l), v5, v6, v7, v8, v9, v10] = [some (.ref d), some (.ref ka), some (.ref a), some (.str ln.2.1), some (.ref l'), w5, w6, w7, w8, w9, w10] ∧ Wd TT d g c (t + (4 * points (.t (.s y :: ps)) - 1)) H6 ∧ Kn d g H H6 ∧ H6 l' = some (.lst ys) ∧ Pt K L ps.length (S + 1) (M + 1) (fun hs => stands L (.t (.s y :: hs)) = true ∧ arr (kindOf L y) y (hs.map (laid L)) = arr (kindOf L y) y (ps.map (laid L))) H6 ys := fun H6 t6 v8 v9 v10 W6 h6 n6 e6 =>
            ⟨l, ys5, v5, v6, v7, v8, v9, v10, rfl, W6.mono (by omega), n5.trans n6, e6, (P5.tk (W5.G.tk n6)).mono (by omega) (by omega) fun hs z => ⟨by rw [stands_t, z.2.1, hst'.1, Bool.true_and]; exact List.all_eq_true.mpr z.1, z.2.2⟩⟩
          have W1 := W5.same s1
          have nk1 : Kn d g H5 _ := .same s1
          have e1 := s1 _ _ eL
          refine ite2 (fun h2 => ?_) (fun h2 => no _ _ _ _ _ W1 (by omega) nk1 e1)
          refine ⟨_, rfl, l, ys5, rfl, .inl (SqL.of e1), _, _, rfl, rfl, _, rfl, ?_⟩
          refine ite2 (fun h3 => ?_) (fun h3 => no _ _ _ _ _ W1 (by omega) nk1 e1)
          have h3' : (2 : Int) < ys5.length := by simpa using h3
          refine ⟨_, rfl, d, g, c, _, 2, rfl, W1.G, by omega, by decide, by decide, fun u2 H6 u20 u21 G6 k6 => ⟨rfl, _, rfl, ?_⟩⟩
          have W6 := W1.kp G6 k6
          have nk6 := nk1.trans (.kp k6)
          have e6 := k6 l _ ld lg e1
          refine ite2 (fun h4 => ?_) (fun h4 => no _ _ _ _ _ W6 (by omega) nk6 e6)
          refine ⟨_, rfl, _, rfl, l, ys5, rfl, .inl (SqL.of e6), _, _, rfl, rfl, d, g, c, _, _, rfl, W6.G, by omega, by omega, by omega, fun at' H7 a0 a1 G7 k7 => ?_⟩
          have W7 := W6.kp G7 k7
          have nk7 := nk6.trans (.kp k7)
          have e7 := k7 l _ ld lg e6
          refine ⟨_, rfl, _, _, rfl, rfl, _, rfl, _, rfl, l, ys5, rfl, .inl (SqL.of e7), _, rfl, _, _, rfl, rfl, _, _, rfl, rfl, d, g, c, _, _, rfl, W7.G, by omega, by omega, by omega, fun u3 H8 u30 u31 G8 k8 => ⟨_, _, rfl, rfl, ?_⟩⟩
          have W8 := W7.kp G8 k8
          have nk8 := nk7.trans (.kp k8)
          have e8 := k8 l _ ld lg e7
          refine ⟨_, rfl, _, rfl, _, _, rfl, rfl, _, rfl, l, ys5, rfl, .inl (SqL.of e8), _, _, rfl, rfl, _, rfl, ?_⟩
          refine ite2 (fun h5 => ?_) (fun h5 => no _ _ _ _ _ W8 (by omega) nk8 e8)
          have w7 : at' < ys5.length - 1 := by omega
          obtain ⟨A, rfl⟩ := Int.eq_ofNat_of_zero_le a0
          obtain ⟨E', rfl⟩ := Int.eq_ofNat_of_zero_le u30
          have hE : ((A : Int) + 2 + (E' : Int)) = ((A + 2 + E' : Nat) : Int) := by omega
          have hEl : A + 2 + E' ≤ ys5.length := by omega
          have s9 := Same.refl H8
          have tk8 := (W5.G.tk nk8)
          have hx8 : SqT K H8 a xs := (W.G.tk (n5.trans nk8)).sqt hx
          have hcm := cut_mid (xs := ys5) A (A + 2 + E') (by omega) hEl
          refine ⟨_, rfl, a, xs, 0, _, rfl, rfl, hx8, atI_nat (j := 0) e0, (by show 1 ≤ sizeLine; decide), fun q1 hq1 => ?_⟩
          have s9 := Same.new (o := .tup [.str y]) (Same.refl H8) hq1
          refine ⟨_, rfl, _, rfl, _, rfl, _, rfl, _, rfl, l, ys5, rfl, SqL.of (s9 _ _ e8), fun q2 hq2 => ?_⟩
          rw [← hE] at hcm
          rw [show A + 2 + E' - A = 2 + E' by omega] at hcm
          have hzl : (cutV ys5 (some (A : Int)) (some ((A : Int) + 2 + (E' : Int)))).length = 2 + E' := by
            rw [hcm, List.length_take, List.length_drop]
            omega
          have s10 := Same.new (o := .lst (cutV ys5 (some (A : Int)) (some ((A : Int) + 2 + (E' : Int))))) s9 hq2
          refine ⟨q2, _, rfl, .inl ⟨SqL.of upd_same, fun q3 hq3 => ?_⟩⟩
          have s11 := Same.new (o := .tup (cutV ys5 (some (A : Int)) (some ((A : Int) + 2 + (E' : Int))))) s10 hq3
          have x1 := Same.new (o := .tup (cutV ys5 (some (A : Int)) (some ((A : Int) + 2 + (E' : Int))))) (Same.new (o := .lst (cutV ys5 (some (A : Int)) (some ((A : Int) + 2 + (E' : Int))))) (Same.refl _) hq2) hq3 q1 _ (upd_same (H := H8) (a := q1) (o := .tup [.str y]))
          refine ⟨q1, q3, [.str y], _, rfl, rfl, SqT.of x1, SqT.of upd_same, by simp, by simp only [List.length_cons, List.length_nil]; rw [hzl, sizeLine_eq]; omega, fun e => absurd (congrArg List.length e) (by rw [hzl]; simp), fun _ p2 hp2 => ?_⟩
          have s12 := Same.new (o := .tup ([.str y] ++ cutV ys5 (some (A : Int)) (some ((A : Int) + 2 + (E' : Int))))) s11 hp2
          generalize hHa : upd _ p2 (.tup ([.str y] ++ cutV ys5 (some (A : Int)) (some ((A : Int) + 2 + (E' : Int))))) = Ha at s12
          have xg : Ha p2 = some (.tup ([.str y] ++ cutV ys5 (some (A : Int)) (some ((A : Int) + 2 + (E' : Int))))) := by rw [← hHa]; exact upd_same
          have hto := cut_to (xs := ys5) A (by omega)
          have hfr := cut_fr (xs := ys5) (A + 2 + E') hEl
          rw [← hE] at hfr
          refine ⟨_, rfl, _, rfl, _, rfl, l, ys5, rfl, SqL.of (s12 _ _ e8), fun p3 hp3 => ?_⟩
          have s13 := Same.new (o := .lst (cutV ys5 none (some (A : Int)))) (Same.refl Ha) hp3
          refine ⟨_, rfl, (by show 1 ≤ sizeLine; decide), fun p4 hp4 => ?_⟩
          have s14 := Same.new (o := .lst [.ref p2]) s13 hp4
          have y3 := Same.new (o := .lst [.ref p2]) (Same.refl _) hp4 p3 _ upd_same
          refine ⟨p3, p4, _, _, rfl, rfl, y3, upd_same, by rw [hto, List.length_take, sizeLine_eq]; simp only [List.length_cons, List.length_nil]; omega, fun p5 hp5 => ?_⟩
          have s15 := Same.new (o := .lst (cutV ys5 none (some (A : Int)) ++ [.ref p2])) s14 hp5
          refine ⟨_, rfl, _, rfl, _, rfl, l, ys5, rfl, SqL.of (s15 _ _ (s12 _ _ e8)), fun p6 hp6 => ?_⟩
          have s16 := Same.new (o := .lst (cutV ys5 (some ((A : Int) + 2 + (E' : Int))) none)) s15 hp6
          have y5 := Same.new (o := .lst (cutV ys5 (some ((A : Int) + 2 + (E' : Int))) none)) (Same.refl _) hp6 p5 _ upd_same
          refine ⟨p5, p6, _, _, rfl, rfl, y5, upd_same, by rw [hto, hfr, List.length_append, List.length_take, List.length_drop, sizeLine_eq]; simp only [List.length_cons, List.length_nil]; omega, fun p7 hp7 => ?_⟩
          have s17 := Same.new (o := .lst ((cutV ys5 none (some (A : Int)) ++ [.ref p2]) ++ cutV ys5 (some ((A : Int) + 2 + (E' : Int))) none)) s16 hp7
          have sF := s12.trans s17
          refine ⟨p7, _, v5, v6, v7, _, _, _, rfl, (W8.same sF).mono (by omega), (n5.trans nk8).trans (.same sF), upd_same, ?_⟩
          rw [hto, hfr]
          have P8 := P5.tk (tk8.trans (TupK.of (Ext.of sF)))
          rw [hto, hfr] at P8
          have er : rowish (kindOf L y) = true := by rw [ekd]; exact h2
          refine P8.group (by omega) hEl b1 b2 ?_ fun hs hl z => ⟨?_, by
            rw [arr_group (fun g hg => gokS g (z.1 g hg)) er (by rw [← m2]; exact ok.nm ln m1) (by omega)]
            exact z.2.2⟩
          rotate_left
          · have h8 : 2 ≤ ps.length ∧ ps.length ≤ 8 := by
              have := hst'.1
              simp only [hasParts, hfi] at this
              rw [ekd] at er
              rw [if_pos er] at this
              exact of_decide_eq_true this
            have h5' : ((A : Int) + 2 + (E' : Int)) - A < ys5.length := by simpa using h5
            have hl2 := z.2.1
            have hp : ∀ n, 2 ≤ n → n ≤ 8 → hasParts L (.s y) n = true := fun n a b => by
              rw [ekd] at er
              simp only [hasParts, hfi, if_pos er]
              exact decide_eq_true ⟨a, b⟩
            rw [stands_t, Bool.and_eq_true_iff]
            refine ⟨hp _ ?_ ?_, List.all_eq_true.mpr fun q hq => ?_⟩
            · simp only [List.length_append, List.length_take, List.length_drop, List.length_cons, List.length_nil]
              omega
            · simp only [List.length_append, List.length_take, List.length_drop, List.length_cons, List.length_nil]
              omega
            · rcases List.mem_append.mp hq with hq | hq
              · rcases List.mem_append.mp hq with hq | hq
                · exact z.1 q (List.mem_of_mem_take hq)
                · rw [List.mem_singleton.mp hq, stands_t, Bool.and_eq_true_iff]
                  refine ⟨hp _ ?_ ?_, List.all_eq_true.mpr fun r hr => z.1 r (List.mem_of_mem_drop (List.mem_of_mem_take hr))⟩
                  · rw [List.length_take, List.length_drop]
                    omega
                  · rw [List.length_take, List.length_drop]
                    omega
              · exact z.1 q (List.mem_of_mem_drop hq)
          rw [hto, hfr] at s17
          have z := s17 _ _ xg
          rw [hcm] at z
          rw [show A + 2 + E' - A = 2 + E' by omega]
          exact SqT.of z
        · rintro σ' H6 ⟨l, ys6, v5, v6, v7, v8, v9, v10, rfl, W6, n6, eL6, P6⟩
          have hl6 := P6.len
          have hx6 : SqT K H6 a xs := (W.G.tk n6).sqt hx
          refine ⟨_, rfl, a, xs, 0, _, rfl, rfl, hx6, atI_nat (j := 0) e0, (by show 1 ≤ sizeLine; decide), fun q1 hq1 => ?_⟩
          have s7 := Same.new (o := .tup [.str y]) (Same.refl H6) hq1
          refine ⟨_, rfl, l, ys6, rfl, .inl ⟨SqL.of (s7 _ _ eL6), fun u hu => ?_⟩⟩
          have s8 := Same.new (o := .tup ys6) s7 hu
          have nq : q1 ≠ u := fun e => by rw [← e, upd_same] at hu; cases hu
          have fin : ∀ (H7 : Hp) (p : Addr), Same H6 H7 → SqT K H7 p (.str y :: ys6) → Q (.ref p) H7 := fun H7 p sm hpp => by
            obtain ⟨gs, i1, i2, i3, i4, i5, i6, i7⟩ := P6.tk (TupK.of (Ext.of sm))
            refine k _ _ ⟨.t (.s y :: gs), .t hpp (.cons (.s y) i1), Ok.mk' b1 b2 i3, ?_, ?_, i6, by rw [laid_t, laid_t, i7]⟩ (W6.same sm) (n6.trans (.same sm))
            · rw [points_t]
              omega
            · rw [deep_t]
              omega
          refine ⟨q1, u, [.str y], ys6, rfl, rfl, SqT.of (by rw [upd_ne nq, upd_same]), SqT.of upd_same, by simp, by simp only [List.length_cons, List.length_nil]; rw [sizeLine_eq]; omega, fun e => ?_, fun _ p hp => ?_⟩
          · refine fin _ _ s8 ?_
            rw [e]
            exact SqT.of (by rw [upd_ne nq, upd_same])
          · exact fin _ _ (Same.new s8 hp) (SqT.of upd_same)
end
end K1
set_option Elab.async false
set_option linter.all false
set_option maxRecDepth 100000
set_option maxHeartbeats 2000000
namespace K1
open PySem PySem.Spec PyProof.Rows L2
open PySem.W (EachIs)
abbrev sDraftT : Stmt := topS 66
abbrev nDraftT : List Str := ["_law_state", "_law_kinds_here", "_law_tree", "_law_found"]
/-- a draft of it -/
def DftIn (K : PySem.W.Frag) (L : List Ln) (g : G) (H : Hp) (y : V) : Prop := ∃ g', In K H y g' ∧ Ok L g' ∧ points g' ≤ 80 ∧ deep g' ≤ 12 ∧ Dft L g g'
def spDraftT (K : PySem.W.Frag) (TT : List (Addr × Str)) : Sp := fun vs H Q _ => ∃ (d g c ka : Addr) (t : Nat) (L : List Ln) (v : V) (gg : G), vs = [.ref d, .ref ka, v] ∧ Wd TT d g c t H ∧ hid [d, g] H ka = some (.dK (kd L)) ∧ LOk L ∧ In K H v gg ∧ Ok L gg ∧ stands L gg = true ∧ points gg ≤ 80 ∧ deep gg ≤ 12 ∧ t + 320 < 2 ^ 30 ∧
  ∀ v' H', DftIn K L gg H' v' → Wd TT d g c (t + 320) H' → Kn d g H H' → Q v' H'
/-- no dict within; no list within -/
def nod : G → Bool
  | .t ps => (ps.map nod).all id
  | .l ps => (ps.map nod).all id
  | .o (.dict _) => false
  | _ => true
def nol : G → Bool
  | .t ps => (ps.map nol).all id
  | .l _ => false
  | _ => true
theorem nod_t (ps : List G) : nod (.t ps) = ps.all nod := by
  rw [nod, List.all_map]
  rfl
theorem nol_t (ps : List G) : nol (.t ps) = ps.all nol := by
  rw [nol, List.all_map]
  rfl
theorem nod_l (ps : List G) : nod (.l ps) = ps.all nod := by
  rw [nod, List.all_map]
  rfl
theorem shp_no (n : Nat) : ∀ g, dp g ≤ n → shp g = true → nod g = true ∧ nol g = true := by
  induction n with
  | zero =>
    intro g h
    have := dp_pos g
    omega
  | succ n ih =>
    intro g hd hs
    rcases shp_cases hs with ⟨x, rfl⟩ | ⟨x, ps, rfl, hp⟩
    · simp [nod, nol]
    · rw [nod_t, nol_t, List.all_eq_true, List.all_eq_true]
      have key : ∀ p ∈ G.s x :: ps, nod p = true ∧ nol p = true := fun p hm => by
        rcases List.mem_cons.mp hm with rfl | hm
        · simp [nod, nol]
        · exact ih p (dp_mem hd (List.mem_cons_of_mem _ hm)) (hp p hm)
      exact ⟨fun p hm => (key p hm).1, fun p hm => (key p hm).2⟩
/-- fine, and not of dicts and lists at once -/
structure Fk (g : G) : Prop where
  f : fine g = true
  k : nod g = true ∨ nol g = true
/-- fine, and built as a term -/
structure Fs (g : G) : Prop where
  f : fine g = true
  s : shp g = true
theorem Fs.no {g : G} (h : Fs g) : nod g = true ∧ nol g = true := shp_no _ g (Nat.le_refl _) h.s
theorem Fs.fk {g : G} (h : Fs g) : Fk g := ⟨h.f, .inl h.no.1⟩
theorem Fs.str {x : Str} (h : x.length ≤ 10 ∧ PyData.strOk x = true) : Fs (.s x) := ⟨by rw [fine]; simp [h.1, h.2], by rw [shp]⟩
theorem fk_t {gs : List G} {q : G} (hq : Fk q) (h : ∀ g ∈ gs, g = q ∨ Fs g) : Fk (.t gs) := by
  refine ⟨fine_mk fun g hg => ?_, ?_⟩
  · rcases h g hg with rfl | z
    · exact hq.f
    · exact z.f
  · rcases hq.k with z | z
    · refine .inl ?_
      rw [nod_t, List.all_eq_true]
      intro g hg
      rcases h g hg with rfl | y
      · exact z
      · exact y.no.1
    · refine .inr ?_
      rw [nol_t, List.all_eq_true]
      intro g hg
      rcases h g hg with rfl | y
      · exact z
      · exact y.no.2
theorem fk_all {gs : List G} (h : ∀ g ∈ gs, Fs g) : Fk (.t gs) := fk_t (q := .s "a") (Fs.str (by decide +kernel)).fk fun g hg => .inr (h g hg)
theorem fk_l {gs : List G} (h : ∀ g ∈ gs, Fs g) : Fk (.l gs) := ⟨by rw [fine_l, List.all_eq_true]; exact fun g hg => (h g hg).f, .inl (by rw [nod_l, List.all_eq_true]; exact fun g hg => (h g hg).no.1)⟩
/-- something, no more than so great -/
def Pk (K : PySem.W.Frag) (H : Hp) (N D : Nat) (x : V) : Prop := ∃ g, In K H x g ∧ Fk g ∧ sz g ≤ N ∧ dp g ≤ D
theorem Pk.ext {K : PySem.W.Frag} {H H' : Hp} {N D : Nat} {x : V} (h : Pk K H N D x) (s : Ext H H') : Pk K H' N D x := by
  obtain ⟨g, h1, h2⟩ := h
  exact ⟨g, h1.ext s, h2⟩
theorem Pk.mono {K : PySem.W.Frag} {H : Hp} {N D N' D' : Nat} {x : V} (h : Pk K H N D x) (h1 : N ≤ N') (h2 : D ≤ D') : Pk K H N' D' x := by
  obtain ⟨g, a1, a2, a3, a4⟩ := h
  exact ⟨g, a1, a2, by omega, by omega⟩
theorem sz_o {d : PyData} : sz (.o d) = 1 := by simp [sz]
theorem dp_o {d : PyData} : dp (.o d) = 1 := by simp [dp]
theorem fine_o {d : PyData} (h : oddB d = true) : fine (.o d) = true := by simp [fine, h]
theorem Pk.str {K : PySem.W.Frag} {H : Hp} {N D : Nat} (x : Str) (h : x.length ≤ 10 ∧ PyData.strOk x = true) (hN : 1 ≤ N) (hD : 1 ≤ D) : Pk K H N D (.str x) := ⟨.s x, .s x, (Fs.str h).fk, by simp [sz]; exact hN, by simp [dp]; exact hD⟩
theorem Pk.non {K : PySem.W.Frag} {H : Hp} {N D : Nat} (hN : 1 ≤ N) (hD : 1 ≤ D) : Pk K H N D .non := ⟨.o .none, .non, ⟨fine_o rfl, .inl (by simp [nod])⟩, by rw [sz_o]; exact hN, by rw [dp_o]; exact hD⟩
theorem Pk.bl {K : PySem.W.Frag} {H : Hp} {N D : Nat} (b : Bool) (hN : 1 ≤ N) (hD : 1 ≤ D) : Pk K H N D (.bl b) := ⟨.o (.bool b), .bl b, ⟨fine_o rfl, .inl (by simp [nod])⟩, by rw [sz_o]; exact hN, by rw [dp_o]; exact hD⟩
theorem Pk.int {K : PySem.W.Frag} {H : Hp} {N D : Nat} (i : Int) (hN : 1 ≤ N) (hD : 1 ≤ D) (hi : i.natAbs < 100 := by decide) : Pk K H N D (.int i) := ⟨.o (.int i), .int i, ⟨fine_o (decide_eq_true hi), .inl (by simp [nod])⟩, by rw [sz_o]; exact hN, by rw [dp_o]; exact hD⟩
theorem Pk.lst {K : PySem.W.Frag} {H : Hp} {N D : Nat} {a : Addr} {xs : List V} {gs : List G} (h : H a = some (.lst xs)) (r : InL K H xs gs) (hf : ∀ g ∈ gs, Fs g) (hN : 1 + (gs.map sz).sum ≤ N) (hD : 1 + maxl (gs.map dp) ≤ D) : Pk K H N D (.ref a) :=
  ⟨.l gs, .lst h r, fk_l hf, by rw [sz_l]; exact hN, by rw [dp_l]; exact hD⟩
theorem Pk.dic {K : PySem.W.Frag} {H : Hp} {N D : Nat} {a : Addr} (h : H a = some (.dK [])) (hN : 1 ≤ N) (hD : 1 ≤ D) : Pk K H N D (.ref a) := ⟨.o (.dict []), .dic h, ⟨fine_o rfl, .inr (by simp [nol])⟩, by rw [sz_o]; exact hN, by rw [dp_o]; exact hD⟩
theorem Pk.tup {K : PySem.W.Frag} {H : Hp} {N D : Nat} {a : Addr} {xs : List V} {gs : List G} (h : H a = some (.tup xs)) (r : InL K H xs gs) (hf : Fk (.t gs)) (hN : 1 + (gs.map sz).sum ≤ N) (hD : 1 + maxl (gs.map dp) ≤ D) : Pk K H N D (.ref a) :=
  ⟨.t gs, .t (SqT.of h) r, hf, by rw [sz_t]; exact hN, by rw [dp_t]; exact hD⟩
def PkL (K : PySem.W.Frag) (H : Hp) (N D : Nat) (xs : List V) : Prop := ∀ x ∈ xs, Pk K H N D x
theorem PkL.nil {K : PySem.W.Frag} {H : Hp} {N D : Nat} : PkL K H N D [] := fun _ z => absurd z (by simp)
theorem PkL.cons {K : PySem.W.Frag} {H : Hp} {N D : Nat} {x : V} {xs : List V} (h : Pk K H N D x) (t : PkL K H N D xs) : PkL K H N D (x :: xs) := fun y hy => by
  rcases List.mem_cons.mp hy with rfl | hy
  · exact h
  · exact t y hy
theorem PkL.app {K : PySem.W.Frag} {H : Hp} {N D : Nat} {xs ys : List V} (h : PkL K H N D xs) (t : PkL K H N D ys) : PkL K H N D (xs ++ ys) := fun y hy => by
  rcases List.mem_append.mp hy with hy | hy
  · exact h y hy
  · exact t y hy
theorem PkL.ext {K : PySem.W.Frag} {H H' : Hp} {N D : Nat} {xs : List V} (h : PkL K H N D xs) (s : Ext H H') : PkL K H' N D xs := fun y hy => (h y hy).ext s
theorem PkL.snoc {K : PySem.W.Frag} {d g : Addr} {H H' : Hp} {N D : Nat} {x : V} {xs : List V} (h : PkL K (hid [d, g] H) N D xs) (s : Same H H') (q : Pk K (hid [d, g] H') N D x) : PkL K (hid [d, g] H') N D (xs ++ [x]) := (h.ext (.of (hid_same s))).app (.cons q .nil)
theorem fine_app {ps qs : List G} (h1 : ∀ p ∈ ps, fine p = true) (h2 : ∀ p ∈ qs, fine p = true) : fine (.t (ps ++ qs)) = true := fine_mk fun p hp => by
  rcases List.mem_append.mp hp with hp | hp
  · exact h1 p hp
  · exact h2 p hp
theorem sum_dropLe (ns : List Nat) (i : Nat) : (ns.drop i).sum ≤ ns.sum := by
  have h2 : ns = ns.take i ++ ns.drop i := (List.take_append_drop _ _).symm
  have : ns.sum = (ns.take i).sum + (ns.drop i).sum := by
    conv => lhs; rw [h2]
    rw [List.sum_append]
  omega
/-- a part exchanged -/
theorem swap_ok {ps : List G} {A : Nat} {p q : G} {N D : Nat} (hp : ps[A]? = some p) (hf : ∀ g ∈ ps, Fs g) (hq : Fk q) (h1 : sz q ≤ 2 * sz p + 30) (h2 : dp q ≤ dp p + 3) :
    Fk (.t (ps.take A ++ [q] ++ ps.drop (A + 1))) ∧ sz (.t (ps.take A ++ [q] ++ ps.drop (A + 1))) ≤ 2 * sz (.t ps) + 30 ∧ dp (.t (ps.take A ++ [q] ++ ps.drop (A + 1))) ≤ dp (.t ps) + 3 := by
  have e1 : (ps.map sz).sum = ((ps.map sz).take A).sum + sz p + ((ps.map sz).drop (A + 1)).sum := by
    have h := take_snoc (l := ps.map sz) (i := A) (x := sz p) (by rw [List.getElem?_map, hp]; rfl)
    conv => lhs; rw [← List.take_append_drop (A + 1) (ps.map sz)]
    rw [List.sum_append, h, List.sum_append]
    simp
  have e2 := le_maxl (List.mem_map.mpr ⟨p, List.mem_of_getElem? hp, rfl⟩ : dp p ∈ ps.map dp)
  have e3 := maxl_take (ps.map dp) A
  have e4 := maxl_drop (ps.map dp) (A + 1)
  refine ⟨fk_t hq fun g hg => ?_, ?_, ?_⟩
  · rcases List.mem_append.mp hg with hg | hg
    · rcases List.mem_append.mp hg with hg | hg
      · exact .inr (hf g (List.mem_of_mem_take hg))
      · exact .inl (List.mem_singleton.mp hg)
    · exact .inr (hf g (List.mem_of_mem_drop hg))
  · rw [sz_t, sz_t, List.map_append, List.map_append, List.sum_append, List.sum_append, List.map_take, List.map_drop, List.map_cons, List.map_nil]
    simp only [List.sum_cons, List.sum_nil]
    omega
  · rw [dp_t, dp_t, List.map_append, List.map_append, maxl_app, maxl_app, List.map_take, List.map_drop, List.map_cons, List.map_nil]
    show 1 + max (max _ (max _ 0)) _ ≤ _
    omega
theorem cut_whole {xs : List V} {lo hi : Option Int} (h : HT.sIx xs.length 0 lo = 0 ∧ HT.sIx xs.length xs.length hi = xs.length) : cutV xs lo hi = xs := by
  unfold cutV
  rw [h.1, h.2]
  exact List.take_of_length_le (by simp)
theorem slA_go {K : PySem.W.Frag} {H : Hp} {a : Addr} {us : List V} {lo hi : Option Int} {Q : VK} (hx : SqT K H a us) (q : ∀ r H', Same H H' → SqT K H' r (cutV us lo hi) → Q (.ref r) H') : rSlA K (.ref a) lo hi H Q :=
  ⟨a, us, rfl, hx, fun h => q a H (Same.refl H) (by rw [cut_whole h]; exact hx), fun _ p hp => q p _ (Same.new (Same.refl H) hp) (SqT.of upd_same)⟩
theorem catA_go {K : PySem.W.Frag} {H : Hp} {a b : Addr} {us ws : List V} {Q : VK} (hx : SqT K H a us) (hy : SqT K H b ws) (hl : us.length + ws.length ≤ sizeLine) (q : ∀ r H', Same H H' → SqT K H' r (us ++ ws) → Q (.ref r) H') : rCatA K (.ref a) (.ref b) H Q :=
  ⟨a, b, us, ws, rfl, rfl, hx, hy, hl, fun h => q b H (Same.refl H) (by rw [h]; exact hy), fun _ h => q a H (Same.refl H) (by rw [h, List.append_nil]; exact hx), fun _ _ p hp => q p _ (Same.new (Same.refl H) hp) (SqT.of upd_same)⟩
theorem hid3_get {d g l x : Addr} {H : Hp} {o : HO} (xd : x ≠ d) (xg : x ≠ g) (xl : x ≠ l) (e : H x = some o) : hid [d, g, l] H x = some o := by
  rw [hid_at (by simp only [List.mem_cons, List.not_mem_nil, or_false, not_or]; exact ⟨xd, xg, xl⟩)]
  exact e
theorem hid3_in {d g l : Addr} {H H' : Hp} (s : Same H H') (h : H l = none) : Same (hid [d, g] H) (hid [d, g, l] H') := fun b o e => by
  obtain ⟨h1, h2, h3⟩ := hid_got e
  exact hid3_get h1 h2 (fun z => by rw [z, h] at h3; cases h3) (s _ _ h3)
theorem hid3_out {d g l : Addr} {H : Hp} : Same (hid [d, g, l] H) (hid [d, g] H) := fun b o e => by
  unfold hid at e
  by_cases h : b ∈ [d, g, l]
  · rw [if_pos h] at e
    cases e
  · rw [if_neg h] at e
    simp only [List.mem_cons, List.not_mem_nil, or_false, not_or] at h
    exact hid_get h.1 h.2.1 e
/-- what is picked from stands at l -/
structure Bg (K : PySem.W.Frag) (TT : List (Addr × Str)) (d g c : Addr) (t : Nat) (H1 : Hp) (l : Addr) (N D : Nat) (us : List V) (ps : List G) (xs : List V) (H : Hp) : Prop where
  W : Wd TT d g c t H
  n : Kn d g H1 H
  el : H l = some (.lst xs)
  pk : PkL K (hid [d, g, l] H) N D xs
  r : InL K (hid [d, g, l] H) us ps
section
variable {K : PySem.W.Frag} {TT : List (Addr × Str)} {d g c : Addr} {t : Nat} {H1 : Hp} {l : Addr} {N D : Nat} {us : List V} {ps : List G} {xs : List V} {H H' Hb : Hp}
theorem Bg.same (b : Bg K TT d g c t H1 l N D us ps xs H) (s : Same H H') : Bg K TT d g c t H1 l N D us ps xs H' := ⟨b.W.same s, b.n.trans (.same s), s _ _ b.el, b.pk.ext (.of (hid_same s)), b.r.same (hid_same s)⟩
theorem Bg.put {x : V} (b : Bg K TT d g c t H1 l N D us ps xs H) (ld : l ≠ d) (lg : l ≠ g) (lc : l ≠ c) (nb : Kn d g H1 Hb) (hb : Hb l = none) (q : Pk K (hid [d, g, l] H) N D x) : Bg K TT d g c t H1 l N D us ps (xs ++ [x]) (upd H l (.lst (xs ++ [x]))) := by
  have e : hid [d, g, l] (upd H l (.lst (xs ++ [x]))) = hid [d, g, l] H := by
    funext b
    unfold hid
    by_cases h : b ∈ [d, g, l]
    · rw [if_pos h, if_pos h]
    · rw [if_neg h, if_neg h]
      exact upd_ne (fun z => h (by rw [z]; simp))
  exact ⟨b.W.off b.el ld lg lc, b.n.updF nb hb, upd_same, by rw [e]; exact b.pk.app (.cons q .nil), by rw [e]; exact b.r⟩
theorem Bg.tup {p : Addr} {zs : List V} {gs : List G} (b : Bg K TT d g c t H1 l N D us ps xs H) (h : SqT K H p zs) (r : InL K (hid [d, g, l] H) zs gs) (hf : ∀ g ∈ gs, Fs g) (hN : 1 + (gs.map sz).sum ≤ N) (hD : 1 + maxl (gs.map dp) ≤ D) : Pk K (hid [d, g, l] H) N D (.ref p) := by
  have tk : TupK H (hid [d, g, l] H) := fun x o e k => by
    obtain ⟨n1, n2⟩ := b.W.G.tup e k
    refine hid3_get n1 n2 (fun z => ?_) e
    rw [z, b.el] at e
    cases e
    rcases k with ⟨_, z⟩ | ⟨_, _, z⟩ <;> cases z
  exact ⟨.t gs, .t (tk.sqt h) r, fk_all hf, by rw [sz_t]; exact hN, by rw [dp_t]; exact hD⟩
end
abbrev nChg : List Str := ["_law_state", "_law_lines", "_law_matter", "_law_way", "_law_at", "_law_heads", "_law_row", "_law_picks"]
def spChg (K : PySem.W.Frag) (TT : List (Addr × Str)) (n : Nat) : Sp := fun vs H Q _ => ∃ (d g c ll : Addr) (t : Nat) (L : List Ln) (v : V) (gg : G), vs = [.ref d, .ref ll, v] ∧ Wd TT d g c t H ∧ Lst K (hid [d, g] H) ll L ∧ LOk L ∧ In K (hid [d, g] H) v gg ∧ Fs gg ∧ dp gg ≤ n ∧ sz gg ≤ 20000 ∧ t + (3 * n + 3) < 2 ^ 30 ∧
  ∀ v' H', Pk K (hid [d, g] H') (2 * sz gg + 30) (dp gg + 3) v' → Wd TT d g c (t + (3 * n + 3)) H' → Kn d g H H' → Q v' H'
theorem fs_mem {ps : List G} (h : Fs (.t ps)) : ∀ p ∈ ps, Fs p := fun p hp => by
  refine ⟨fine_mem h.f hp, ?_⟩
  rcases shp_cases h.s with ⟨x, e⟩ | ⟨x, qs, e, hq⟩
  · cases e
  · cases e
    rcases List.mem_cons.mp hp with rfl | hp
    · rw [shp]
    · exact hq p hp
section
variable {P : Program} {w : World} {K : PySem.W.Frag} {mg : Str → Option Value} {base : Heap}
theorem scDraftT : FnScope nDraftT ["_law_state", "_law_kinds_here", "_law_tree"] (defScope sDraftT) := ⟨rfl, rfl, rfl, by decide +kernel, rfl, by decide +kernel, by decide +kernel⟩
theorem ok_draftT {f : Addr} {fd : FuncData} {TT : List (Addr × Str)} {n m N q : Nat} (F : Fun K "_law_draft" "_law_draft" sDraftT f fd) (DL : Df P w K mg base C8.CX0 "_law_loose" m ["_law_state", "_law_kinds_here", "_law_tree"] (spLoose K TT n))
    (DP : Df P w K mg base C8.CX0 "_law_points" q ["_law_tree"] (sp1 K N fun g => .int (points g))) (DD : Df P w K mg base C8.CX0 "_law_deep" q ["_law_tree"] (sp1 K N fun g => .int (deep g))) (hm : q ≤ m) (hn : 13 ≤ n) (hN : 25 ≤ N) :
    FnOk P w K mg base C8.CX0 (m + 1) f fd ["_law_state", "_law_kinds_here", "_law_tree"] (spDraftT K TT) := by
  refine F.ok scDraftT (fun vs H Q E h => ?_) (fun cdv A outer s H vs Q E hr h => ?_)
  · obtain ⟨d, g, c, ka, t, L, v, gg, rfl, _⟩ := h
    rfl
  · obtain ⟨d, g, c, ka, t, L, v, gg, rfl, W, hka, ok, hin, okg, hst, hp, hd, ht, k⟩ := h
    have hrq : Room q _ := hr.mono hm
    refine ⟨_, pss_cons (ps_set (i := 3) scDraftT.nd rfl (Or.inl rfl) (pe_df DL hr pass0 (pa_cons (pv 0) (pa_cons (pv 1) (pa_cons (pv 2) pa_nil))) (Nat.le_refl _)))
      (pss_cons (ps_if (PW.pt (pw_or (pt_cmpR op_gt (pe_df DP hrq pass0 (pa_cons (pv 3) pa_nil) (Nat.le_refl _)) pe_int (nomark _)) (pw_or1 (pt_cmpR op_gt (pe_df DD hrq pass0 (pa_cons (pv 3) pa_nil) (Nat.le_refl _)) pe_int (nomark _))))) (pss_one (ps_ret (pv 2))) pss_nil)
      (pss_one (ps_ret (pv 3)))), ?_⟩
    have h1 := okg.sz
    have h2 := okg.dp
    refine ⟨_, rfl, _, rfl, _, rfl, d, g, c, ka, t, L, v, gg, rfl, W, hka, ok, hin, okg, hst, by omega, by omega, by omega, fun v' H1 hv W1 n1 => ?_⟩
    obtain ⟨g', i1, i2, i3, i4, i5⟩ := hv
    have W1' : Wd TT d g c (t + 320) H1 := W1.mono (by omega)
    have h1' := i2.sz
    have h2' := i2.dp
    have back : ∀ H2, Same H1 H2 → Q v H2 := fun H2 s2 => k v H2 ⟨gg, in_tk (W.G.tk (n1.trans (.same s2))) _ _ okg.shp hin, okg, by omega, by omega, hst, rfl⟩ (W1'.same s2) (n1.trans (.same s2))
    refine ⟨_, rfl, v', g', rfl, i1, i2.shp, i2.fine, by omega, by omega, fun H2 s2 => ⟨_, _, rfl, rfl, _, rfl, ?_⟩⟩
    refine ite2 (fun h3 => ⟨_, rfl, back H2 s2⟩) (fun h3 => ?_)
    have h3' : ¬ (80 : Int) < points g' := by simpa using h3
    refine ⟨_, rfl, v', g', rfl, i1.same s2, i2.shp, i2.fine, by omega, by omega, fun H3 s3 => ⟨_, _, rfl, rfl, _, rfl, ?_⟩⟩
    refine ite2 (fun h4 => ⟨_, rfl, back H3 (s2.trans s3)⟩) (fun h4 => ?_)
    have h4' : ¬ (12 : Int) < deep g' := by simpa using h4
    exact ⟨_, rfl, k v' H3 ⟨g', i1.same (s2.trans s3), i2, by omega, by omega, i5⟩ (W1'.same (s2.trans s3)) (n1.trans (.same (s2.trans s3)))⟩
end
end K1
set_option Elab.async false
set_option linter.all false
set_option maxRecDepth 100000
set_option maxHeartbeats 2000000
namespace K1
open PySem PySem.Spec PyProof.Rows L2
open PySem.W (EachIs)
theorem each_at {α β : Type} {R : α → β → Prop} : ∀ {as : List α} {bs : List β} {i : Nat} {a : α}, EachIs R as bs → as[i]? = some a → ∃ b, bs[i]? = some b ∧ R a b
  | _, _, i, a, .nil, h => by simp at h
  | _, _, 0, a, .cons (b := b) q _, h => ⟨b, rfl, by
      have e := Option.some.inj h
      rw [← e]
      exact q⟩
  | _, _, i + 1, a, .cons _ t, h => each_at (i := i) t h
abbrev sorts7 : List (Str × Nat) := [("plain", 0), ("plain", 0), ("plain", 1), ("plain", 4), ("pair", 2), ("row", 2), ("heap", 2)]
theorem sorts_ok : ∀ s ∈ sorts7, s.1 ∈ kinds4 ∧ (s.1 = "pair" → s.2 = 2) ∧ s.2 ≤ 4 := by decide +kernel
def rows7 (ws : List Str) : List Ln := ws.zip sorts7
theorem rows7_at {ws : List Str} {i : Nat} {w : Str} {s : Str × Nat} (h1 : ws[i]? = some w) (h2 : sorts7[i]? = some s) : (rows7 ws)[i]? = some (w, s) := by
  unfold rows7
  rw [List.getElem?_zip_eq_some]
  exact ⟨h1, h2⟩
theorem rows7_mem {ws : List Str} {l : Ln} (h : l ∈ rows7 ws) : l.1 ∈ ws ∧ l.2 ∈ sorts7 := List.of_mem_zip h
theorem rows7_names {ws : List Str} (h : ws.length = 7) : (rows7 ws).map (·.1) = ws := by
  show (rows7 ws).map Prod.fst = ws
  unfold rows7
  rw [List.map_fst_zip]
  rw [h]
  decide
theorem dpr_perm {K : PySem.W.Frag} {H : Hp} {ys zs : List V} (p : ys.Perm zs) : ∀ {L : List Ln}, DpAll K H ys (L.map rowD) → ∃ M, DpAll K H zs (M.map rowD) ∧ L.Perm M := by
  induction p with
  | nil => intro L h; exact ⟨L, h, .refl _⟩
  | cons x _ ih =>
    intro L h
    cases L with
    | nil => cases h
    | cons l L =>
      cases h with
      | cons h t =>
        obtain ⟨M, i1, i2⟩ := ih t
        exact ⟨l :: M, .cons h i1, i2.cons _⟩
  | swap x y l =>
    intro L h
    cases L with
    | nil => cases h
    | cons l1 L =>
      cases h with
      | cons h t =>
        cases L with
        | nil => cases t
        | cons l2 L =>
          cases t with
          | cons h' t => exact ⟨l2 :: l1 :: L, .cons h' (.cons h t), .swap _ _ _⟩
  | trans _ _ ih1 ih2 =>
    intro L h
    obtain ⟨M, i1, i2⟩ := ih1 h
    obtain ⟨N, j1, j2⟩ := ih2 i1
    exact ⟨N, j1, i2.trans j2⟩
/-- what is told of the drawn signs -/
structure Sn (L : List Ln) : Prop where
  ok : LOk L
  nd : (L.map (·.1)).Nodup
  ne : L ≠ []
  rw : ∀ l ∈ L, l.2 ∈ sorts7
theorem sn_perm {ws : List Str} {L : List Ln} (p : (rows7 ws).Perm L) (hl : ws.length = 7) (hn : ws.Nodup) (hw : ∀ w ∈ ws, nameB w = true) : Sn L := by
  have hm : ∀ l ∈ L, l.1 ∈ ws ∧ l.2 ∈ sorts7 := fun l h => rows7_mem (p.mem_iff.mpr h)
  have hlen : L.length = 7 := by
    rw [← p.length_eq]
    have := congrArg List.length (rows7_names hl)
    rw [List.length_map, hl] at this
    exact this
  refine ⟨⟨fun l h => (sorts_ok _ (hm l h).2).1, fun l h => (sorts_ok _ (hm l h).2).2.1, fun l h => hw _ (hm l h).1, by omega, fun l h => (sorts_ok _ (hm l h).2).2.2⟩, ?_, (fun z => by rw [z] at hlen; cases hlen), fun l h => (hm l h).2⟩
  have := (p.map (·.1)).nodup_iff
  rw [← this, rows7_names hl]
  exact hn
abbrev sKinds7 : Stmt := topS 68
abbrev nKinds7 : List Str := ["_law_state", "_law_words_here", "_law_sorts", "_law_left", "_law_lines", "_law_k"]
def spKinds7 (K : PySem.W.Frag) (TT : List (Addr × Str)) : Sp := fun vs H Q _ => ∃ (d g c : Addr) (t : Nat), vs = [.ref d] ∧ Wd TT d g c t H ∧ t + 84 < 2 ^ 30 ∧
  ∀ (p lw ll : Addr) (ws : List Str) (L : List Ln) (xs : List V) (H' : Hp), SqT K H' p [.ref lw, .ref ll] → hid [d, g] H' lw = some (.lst (ws.map V.str)) → ws.length = 7 → (∀ w ∈ ws, nameB w = true) → hid [d, g] H' ll = some (.lst xs) → DpAll K (hid [d, g] H') xs (L.map rowD) → Sn L → Wd TT d g c (t + 84) H' → Kn d g H H' → Q (.ref p) H'
section
variable {P : Program} {w : World} {K : PySem.W.Frag} {mg : Str → Option Value} {base : Heap}
theorem scKinds7 : FnScope nKinds7 ["_law_state"] (defScope sKinds7) := ⟨rfl, rfl, rfl, by decide +kernel, rfl, by decide +kernel, by decide +kernel⟩
theorem ok_kinds7 {f : Addr} {fd : FuncData} {TT : List (Addr × Str)} (F : Fun K "_law_all_kinds" "_law_all_kinds" sKinds7 f fd) (DT : Df P w K mg base C8.CX0 "_law_take" 2 ["_law_state", "_law_size"] spTake) (DW : Df P w K mg base C8.CX0 "_law_words" 3 ["_law_state", "_law_size"] spWords) (T : Ct mg) :
    FnOk P w K mg base C8.CX0 4 f fd ["_law_state"] (spKinds7 K TT) := by
  refine F.ok scKinds7 (fun vs H Q E h => ?_) (fun cdv A outer s H vs Q E hr h => ?_)
  · obtain ⟨d, g, c, t, rfl, _⟩ := h
    rfl
  · obtain ⟨d, g, c, t, rfl, W, ht, k⟩ := h
    refine ⟨_, pss_cons (ps_set (i := 1) scKinds7.nd rfl (Or.inr rfl) (pe_df DW hr pass0 (pa_cons (pv 0) (pa_cons pe_int pa_nil))))
      (pss_cons (ps_set (i := 2) scKinds7.nd rfl (Or.inr rfl) (pe_lst (pa_cons (pe_tup (pa_cons pe_str (pa_cons pe_int pa_nil))) (pa_cons (pe_tup (pa_cons pe_str (pa_cons pe_int pa_nil))) (pa_cons (pe_tup (pa_cons pe_str (pa_cons pe_int pa_nil))) (pa_cons (pe_tup (pa_cons pe_str (pa_cons pe_int pa_nil))) (pa_cons (pe_tup (pa_cons pe_str (pa_cons pe_int pa_nil))) (pa_cons (pe_tup (pa_cons pe_str (pa_cons pe_int pa_nil))) (pa_cons (pe_tup (pa_cons pe_str (pa_cons pe_int pa_nil))) pa_nil)))))))))
      (pss_cons (ps_par (i := 3) (j := 4) (by rfl) scKinds7.nd rfl rfl (by decide) rfl rfl (pa_cons (pe_lc (own := [("_law_k", 5)]) (g := gName 5) (tt := tYes) (te := tOp (rCatT K) (tTup (tCons (tOp (rIxL K) (tVar 1) (tVar 5)) tNil)) (tOp (rIxL K) (tVar 2) (tVar 5))) rfl scKinds7.nd (pi_range1 rfl T.range (pa_cons pe_int pa_nil)) (blkOk_by (N := nKinds7) (sc := defScope sKinds7) (by decide +kernel)) (fun _ _ _ _ _ => pg_name (i := 5) scKinds7.nd rfl (Or.inl rfl)) (fun _ _ _ _ _ => pts_nil)
          (fun _ _ _ _ _ => pe_op op_catT (pe_tup (pa_cons (pe_ix ix_list (pv 1) (pv 5) (fun _ _ => rfl)) pa_nil)) (pe_ix ix_list (pv 2) (pv 5) (fun _ _ => rfl)))) (pa_cons (pe_lst pa_nil) pa_nil)) (by rfl))
      (pss_cons (ps_for PassesOwn.never rfl (pi_range1 rfl T.range (pa_cons pe_int pa_nil)) (pg_name (i := 5) scKinds7.nd rfl (Or.inl rfl))
          (pss_one (ps_expr (pe_bm PySem.F.plainAttrs_list PySem.F.slot_list_append PySem.F.type_list_append mt_append (pv 4) (pa_cons (pe_bm PySem.F.plainAttrs_list PySem.F.slot_list_pop PySem.F.type_list_pop mt_popAt (pv 3) (pa_cons (pe_df DT hr pass0 (pa_cons (pv 0) (pa_cons (pe_callB call_len_seq (by rfl) T.len PySem.boot_len (pa_cons (pv 3) pa_nil)) pa_nil))) pa_nil)) pa_nil)))))
      (pss_one (ps_ret (pe_tup (pa_cons (pv 1) (pa_cons (pv 4) pa_nil)))))))), ?_⟩
    refine ⟨_, rfl, d, g, c, t, 7, rfl, W.G, by decide, by omega, fun lw ws H1 wl wn ww ew hw0 G1 k1 => ?_⟩
    have W1 := W.kp G1 k1
    have n1 : Kn d g H H1 := .kp k1
    obtain ⟨lwd, lwg⟩ := W.G.nd hw0
    refine ⟨(by show 2 ≤ sizeLine; decide), fun q1 hq1 => ⟨(by show 2 ≤ sizeLine; decide), fun q2 hq2 => ⟨(by show 2 ≤ sizeLine; decide), fun q3 hq3 => ⟨(by show 2 ≤ sizeLine; decide), fun q4 hq4 => ⟨(by show 2 ≤ sizeLine; decide), fun q5 hq5 => ⟨(by show 2 ≤ sizeLine; decide), fun q6 hq6 => ⟨(by show 2 ≤ sizeLine; decide), fun q7 hq7 => ⟨(by show 7 ≤ sizeLine; decide), fun ls hls => ?_⟩⟩⟩⟩⟩⟩⟩⟩
    have A1 := Same.new (o := .tup [.str "plain", .int 0]) (Same.refl H1) hq1
    have A2 := Same.new (o := .tup [.str "plain", .int 0]) (Same.refl _) hq2
    have A3 := Same.new (o := .tup [.str "plain", .int 1]) (Same.refl _) hq3
    have A4 := Same.new (o := .tup [.str "plain", .int 4]) (Same.refl _) hq4
    have A5 := Same.new (o := .tup [.str "pair", .int 2]) (Same.refl _) hq5
    have A6 := Same.new (o := .tup [.str "row", .int 2]) (Same.refl _) hq6
    have A7 := Same.new (o := .tup [.str "heap", .int 2]) (Same.refl _) hq7
    have A8 := Same.new (o := .lst [.ref q1, .ref q2, .ref q3, .ref q4, .ref q5, .ref q6, .ref q7]) (Same.refl _) hls
    have B78 := A7.trans A8
    have B68 := A6.trans B78
    have B58 := A5.trans B68
    have B48 := A4.trans B58
    have B38 := A3.trans B48
    have B28 := A2.trans B38
    have B18 := A1.trans B28
    have srt : EachIs (fun q s => ∃ a, q = V.ref a ∧ SqT K _ a [.str s.1, .int s.2]) [V.ref q1, .ref q2, .ref q3, .ref q4, .ref q5, .ref q6, .ref q7] sorts7 :=
      .cons ⟨q1, rfl, SqT.of (B28 _ _ upd_same)⟩ (.cons ⟨q2, rfl, SqT.of (B38 _ _ upd_same)⟩ (.cons ⟨q3, rfl, SqT.of (B48 _ _ upd_same)⟩ (.cons ⟨q4, rfl, SqT.of (B58 _ _ upd_same)⟩ (.cons ⟨q5, rfl, SqT.of (B68 _ _ upd_same)⟩ (.cons ⟨q6, rfl, SqT.of (B78 _ _ upd_same)⟩ (.cons ⟨q7, rfl, SqT.of (A8 _ _ upd_same)⟩ .nil))))))
    generalize hH2 : upd _ ls (.lst [.ref q1, .ref q2, .ref q3, .ref q4, .ref q5, .ref q6, .ref q7]) = H2 at B18 srt
    have els : H2 ls = some (.lst [.ref q1, .ref q2, .ref q3, .ref q4, .ref q5, .ref q6, .ref q7]) := by rw [← hH2]; exact upd_same
    have W2 := W1.same B18
    have n2 : Kn d g H H2 := n1.trans (.same B18)
    have ew2 := B18 _ _ ew
    have hr7 := rows7_names wl
    have hrl : (rows7 ws).length = 7 := by
      have := congrArg List.length hr7
      rw [List.length_map, wl] at this
      exact this
    refine ⟨7, rfl, by decide, by decide, fun D hD => ?_⟩
    have D2 := W2.G.nd hD
    refine lc_range (lo := 0) (n := 7) (fun i H3 => Same H2 H3 ∧ ∃ ys : List V, H3 D = some (.lst ys) ∧ ys.length = i ∧ DpAll K H3 ys (((rows7 ws).take i).map rowD))
      ⟨Same.new (Same.refl H2) hD, [], upd_same, rfl, .nil⟩ ?_ ?_
    · rintro i H3 hi ⟨s3, ys, eD, hyl, hys⟩
      obtain ⟨w, hw⟩ : ∃ w, ws[i]? = some w := ⟨ws[i]'(by omega), List.getElem?_eq_getElem (by omega)⟩
      obtain ⟨q, hq⟩ : ∃ q, ([V.ref q1, .ref q2, .ref q3, .ref q4, .ref q5, .ref q6, .ref q7] : List V)[i]? = some q := ⟨_, List.getElem?_eq_getElem (by simpa using hi)⟩
      obtain ⟨s, hs, a, rfl, ha⟩ := each_at srt hq
      have hrow := rows7_at hw hs
      refine ⟨rfl, _, rfl, _, rfl, lw, _, _, .str w, rfl, rfl, SqL.of (s3 _ _ ew2), ?_, (by show 1 ≤ sizeLine; decide), fun p1 hp1 => ?_⟩
      · show atI (ws.map V.str) ((0 : Int) + (i : Int)) = _
        rw [Int.zero_add]
        exact atI_nat (by rw [List.getElem?_map, hw]; rfl)
      have s4 := Same.new (o := .tup [.str w]) s3 hp1
      refine ⟨_, rfl, _, rfl, ls, _, _, .ref a, rfl, rfl, SqL.of (s4 _ _ els), ?_, p1, a, [.str w], _, rfl, rfl, SqT.of upd_same, sqt_same s4 ha, by simp, (by show 3 ≤ sizeLine; decide), fun z => absurd z (by simp), fun _ p2 hp2 => ?_⟩
      · show atI _ ((0 : Int) + (i : Int)) = _
        rw [Int.zero_add]
        exact atI_nat hq
      have s5 := Same.new (o := .tup [.str w, .str s.1, .int s.2]) s4 hp2
      have s35 := Same.new (o := .tup [.str w, .str s.1, .int s.2]) (Same.new (o := .tup [.str w]) (Same.refl H3) hp1) hp2
      have eD5 := s35 _ _ eD
      refine ⟨ys, eD5, by rw [sizeLine_eq]; omega, ?_, ys ++ [.ref p2], upd_same, by rw [List.length_append, hyl]; rfl, ?_⟩
      · exact fun b o e => by
          rw [upd_ne (ne_of_none e hD)]
          exact s5 b o e
      · rw [take_snoc hrow]
        have tk : TupK H3 (upd (upd (upd H3 p1 (.tup [.str w])) p2 (.tup [.str w, .str s.1, .int s.2])) D (.lst (ys ++ [.ref p2]))) := (TupK.of (Ext.of s35)).off eD5
        refine dpr_snoc (dpr_tk tk _ hys) (.tup (SqT.of ?_) (.cons (.str _) (.cons (.str _) (.cons (.int _) .nil))))
        rw [upd_ne (fun z => by rw [z, eD5.symm.trans eD5] at eD5; exact absurd (upd_same.symm.trans (z ▸ eD5)) (by intro q; cases q))]
        exact upd_same
    · rintro H3 ⟨s3, ys, eD, hyl, hys⟩
      rw [← hrl, List.take_length] at hys
      refine ⟨(by show 0 ≤ sizeLine; decide), fun E2 hE2 => ⟨_, _, rfl, ?_⟩⟩
      have s4 := Same.new (o := .lst []) (Same.refl H3) hE2
      have W3 := W2.same s3
      obtain ⟨Dd, Dg⟩ := D2
      have Dc := W2.G.nc hD
      obtain ⟨Ed, Eg⟩ := W3.G.nd hE2
      have Ec := W3.G.nc hE2
      have nDE : E2 ≠ D := fun z => by rw [z, eD] at hE2; cases hE2
      have nlD : lw ≠ D := ne_of_none ew2 hD
      have nlE : lw ≠ E2 := ne_of_none (s3 _ _ ew2) hE2
      have n3 : Kn d g H H3 := n2.trans (.same s3)
      refine ⟨7, rfl, by decide, by decide, ?_⟩
      refine for_range (lo := 0) (n := 7) (fun i σ' H6 => ∃ (zs us : List V) (v5 : Option V), σ' = [some (.ref d), some (.ref lw), some (.ref ls), some (.ref D), some (.ref E2), v5] ∧ H6 D = some (.lst zs) ∧ H6 E2 = some (.lst us) ∧ ys.Perm (zs ++ us) ∧ us.length = i ∧ Wd TT d g c (t + 77 + i) H6 ∧ Kn d g H H6 ∧ TupK H3 H6 ∧ H6 lw = some (.lst (ws.map V.str)))
        ⟨ys, [], none, rfl, s4 _ _ eD, upd_same, by rw [List.append_nil], rfl, W3.same s4, n3.trans (.same s4), TupK.of (Ext.of s4), s4 _ _ (s3 _ _ ew2)⟩ ?_ ?_
      · rintro i σ' H6 hi ⟨zs, us, v5, rfl, eD6, eE6, hpm, hul, W6, n6, tk6, ew6⟩
        have hpl2 := hpm.length_eq
        rw [List.length_append] at hpl2
        refine ⟨_, rfl, .inl ⟨rfl, _, SqL.of eE6⟩, _, rfl, .inl ⟨rfl, _, SqL.of eD6⟩, _, rfl, _, rfl, D, zs, rfl, .inl (SqL.of eD6), d, g, c, _, _, rfl, W6.G, by omega, by omega, by omega, fun u H7 u0 u1 G7 k7 => ?_⟩
        have eD7 := k7 D _ Dd Dg eD6
        have eE7 := k7 E2 _ Ed Eg eE6
        have W7 := W6.kp G7 k7
        obtain ⟨y', hy'⟩ : ∃ y', zs[u.toNat]? = some y' := ⟨zs[u.toNat]'(by omega), List.getElem?_eq_getElem (by omega)⟩
        refine ⟨D, zs, u, u.toNat, y', rfl, rfl, eD7, by omega, by omega, seq_ix u0 u1, hy', ?_⟩
        have hpl3 := pop_len hy'
        refine ⟨E2, us, y', rfl, rfl, by rw [upd_ne nDE]; exact eE7, by rw [sizeLine_eq]; omega, zs.eraseIdx u.toNat, us ++ [y'], _, rfl, by rw [upd_ne nDE.symm, upd_same], upd_same, ?_, by rw [List.length_append, hul]; rfl, ?_, ?_, ?_, ?_⟩
        · refine hpm.trans (((pop_perm hy').append_right us).trans ?_)
          rw [← List.append_assoc]
          exact (List.perm_append_singleton y' _).symm
        · exact ((W7.mono (by omega)).off eD7 Dd Dg Dc).off (by rw [upd_ne nDE]; exact eE7) Ed Eg Ec
        · exact ((n6.trans (.kp k7)).updF n2 hD).updF n3 hE2
        · have tk7 : TupK H3 H7 := tk6.trans (W6.G.tk (.kp k7))
          exact (tk7.off eD7).off (by rw [upd_ne nDE]; exact eE7)
        · rw [upd_ne nlE, upd_ne nlD]
          exact k7 lw _ lwd lwg ew6
      · rintro σ' H6 ⟨zs, us, v5, rfl, eD6, eE6, hpm, hul, W6, n6, tk6, ew6⟩
        have hpl2 := hpm.length_eq
        rw [List.length_append] at hpl2
        have hz0 : zs = [] := List.eq_nil_of_length_eq_zero (by omega)
        rw [hz0, List.nil_append] at hpm
        obtain ⟨L, l1, l2⟩ := dpr_perm hpm (dpr_tk tk6 _ hys)
        refine ⟨_, rfl, _, rfl, (by show 2 ≤ sizeLine; decide), fun p hp => ?_⟩
        have s7 := Same.new (o := .tup [.ref lw, .ref E2]) (Same.refl H6) hp
        have W7 := W6.same s7
        exact k p lw E2 ws L us _ (SqT.of upd_same) (hid_get lwd lwg (s7 _ _ ew6)) wl ww (hid_get Ed Eg (s7 _ _ eE6)) (dpr_tk ((TupK.of (Ext.of s7)).trans W7.G.tkh) _ l1) (sn_perm l2 wl wn ww) W7 (n6.trans (.same s7))
end
end K1
set_option Elab.async false
set_option linter.all false
set_option maxRecDepth 100000
set_option maxHeartbeats 2000000
namespace K1
open PySem PySem.Spec PyProof.Rows L2
open PySem.W (EachIs)
/-- built as a term, no more than so great -/
def Bd (K : PySem.W.Frag) (H : Hp) (N D : Nat) (x : V) : Prop := ∃ g, In K H x g ∧ shp g = true ∧ fine g = true ∧ sz g ≤ N ∧ dp g ≤ D ∧ GpB g
theorem Bd.tk {K : PySem.W.Frag} {H H' : Hp} {N D : Nat} {x : V} (h : Bd K H N D x) (s : TupK H H') : Bd K H' N D x := by
  obtain ⟨g, h1, h2, h3⟩ := h
  exact ⟨g, in_tk s _ _ h2 h1, h2, h3⟩
theorem Bd.same {K : PySem.W.Frag} {H H' : Hp} {N D : Nat} {x : V} (h : Bd K H N D x) (s : Same H H') : Bd K H' N D x := h.tk (TupK.of (Ext.of s))
theorem Bd.mono {K : PySem.W.Frag} {H : Hp} {N D N' D' : Nat} {x : V} (h : Bd K H N D x) (h1 : N ≤ N') (h2 : D ≤ D') : Bd K H N' D' x := by
  obtain ⟨g, a1, a2, a3, a4, a5, a6⟩ := h
  exact ⟨g, a1, a2, a3, by omega, by omega, a6⟩
theorem bds_in {K : PySem.W.Frag} {H : Hp} {N D : Nat} : ∀ {ys : List V}, (∀ y ∈ ys, Bd K H N D y) → ∃ gs, InL K H ys gs ∧ (∀ g ∈ gs, shp g = true ∧ fine g = true) ∧ (gs.map sz).sum ≤ ys.length * N ∧ maxl (gs.map dp) ≤ D ∧ ∀ g ∈ gs, GpB g
  | [], _ => ⟨[], .nil, fun _ z => absurd z (by simp), Nat.zero_le _, Nat.zero_le _, fun _ z => absurd z (by simp)⟩
  | y :: ys, q => by
    obtain ⟨g, h1, h2, h3, h4, h5, h6⟩ := q y List.mem_cons_self
    obtain ⟨gs, i1, i2, i3, i4, i5⟩ := bds_in (ys := ys) fun z hz => q z (List.mem_cons_of_mem _ hz)
    refine ⟨g :: gs, .cons h1 i1, fun z hz => ?_, ?_, ?_, fun z hz => ?_⟩
    · rcases List.mem_cons.mp hz with rfl | hz
      · exact ⟨h2, h3⟩
      · exact i2 z hz
    · rw [List.map_cons, List.sum_cons, List.length_cons, Nat.add_mul, Nat.one_mul]
      omega
    · exact Nat.max_le.mpr ⟨h5, i4⟩
    · rcases List.mem_cons.mp hz with rfl | hz
      · exact h6
      · exact i5 z hz
theorem fine_s {x : Str} (h : x.length ≤ 10 ∧ PyData.strOk x = true) : fine (.s x) = true := by
  rw [fine]
  simp [h.1, h.2]
theorem Bd.mk {K : PySem.W.Frag} {H : Hp} {N D : Nat} {w : Str} {r : Addr} {ys : List V} {gs : List G} (h : SqT K H r (.str w :: ys)) (hw : w.length ≤ 10 ∧ PyData.strOk w = true) (i1 : InL K H ys gs) (i2 : ∀ g ∈ gs, shp g = true ∧ fine g = true) (i3 : (gs.map sz).sum ≤ N) (i4 : maxl (gs.map dp) ≤ D) (hD : 1 ≤ D) (i5 : ∀ g ∈ gs, GpB g) : Bd K H (2 + N) (1 + D) (.ref r) := by
  refine ⟨.t (.s w :: gs), .t h (.cons (.s w) i1), shp_mk fun p hp => (i2 p hp).1, fine_mk fun p hp => ?_, ?_, ?_, gpb_t i5⟩
  · rcases List.mem_cons.mp hp with rfl | hp
    · exact fine_s hw
    · exact (i2 p hp).2
  · rw [sz_t, List.map_cons, List.sum_cons, sz_s]
    omega
  · rw [dp_t, List.map_cons, dp_s]
    show 1 + max 1 (maxl _) ≤ _
    omega
theorem Bd.row {K : PySem.W.Frag} {H : Hp} {N D : Nat} {w : Str} {r : Addr} {ys : List V} (h : SqT K H r (.str w :: ys)) (hw : w.length ≤ 10 ∧ PyData.strOk w = true) (q : ∀ y ∈ ys, Bd K H N D y) (hD : 1 ≤ D) : Bd K H (2 + ys.length * N) (1 + D) (.ref r) := by
  obtain ⟨gs, i1, i2, i3, i4, i5⟩ := bds_in q
  exact Bd.mk h hw i1 i2 i3 i4 hD i5
theorem Bd.row2 {K : PySem.W.Frag} {H : Hp} {N N' D : Nat} {w : Str} {r : Addr} {x y : V} (h : SqT K H r [.str w, x, y]) (hw : w.length ≤ 10 ∧ PyData.strOk w = true) (a : Bd K H N D x) (b : Bd K H N' D y) (hD : 1 ≤ D) : Bd K H (2 + (N + N')) (1 + D) (.ref r) := by
  obtain ⟨g, a1, a2, a3, a4, a5, a6⟩ := a
  obtain ⟨g', b1, b2, b3, b4, b5, b6⟩ := b
  refine Bd.mk h hw (gs := [g, g']) (.cons a1 (.cons b1 .nil)) (fun z hz => ?_) ?_ ?_ hD (fun z hz => by
    simp only [List.mem_cons, List.not_mem_nil, or_false] at hz
    rcases hz with rfl | rfl
    · exact a6
    · exact b6)
  · simp only [List.mem_cons, List.not_mem_nil, or_false] at hz
    rcases hz with rfl | rfl
    · exact ⟨a2, a3⟩
    · exact ⟨b2, b3⟩
  · simp only [List.map_cons, List.map_nil, List.sum_cons, List.sum_nil]
    omega
  · show max _ (max _ 0) ≤ _
    omega
theorem Bd.leaf {K : PySem.W.Frag} {H : Hp} {w : Str} {r : Addr} (h : SqT K H r [.str w]) (hw : w.length ≤ 10 ∧ PyData.strOk w = true) : Bd K H 2 2 (.ref r) := Bd.mk h hw (gs := []) .nil (fun _ z => absurd z (by simp)) (Nat.le_refl _) (Nat.zero_le 1) (Nat.le_refl _) (fun _ z => absurd z (by simp))
def opk : Nat → Nat → Bool
  | 0, _ => false
  | f + 1, n => decide (n = 1) || (decide (n = 2) || ((decide (3 ≤ n ∧ n < 5) && opk f (n - 2)) || (decide (5 ≤ n) && (opk f ((n - 1) / 4) && opk f (n - 1 - 3 * ((n - 1) / 4))))))
theorem opk_82 : ∀ u : Fin 5, opk 6 (78 + u.val) = true := by decide +kernel
abbrev sOfP : Stmt := topS 69
abbrev nOfP : List Str := ["_law_words_here", "_law_many", "_law_share", "_law_parts", "_law_k", "_law_last"]
def spOfP (K : PySem.W.Frag) (f : Nat) : Sp := fun vs H Q _ => ∃ (lw : Addr) (ws : List Str) (n : Nat), vs = [.ref lw, .int n] ∧ H lw = some (.lst (ws.map V.str)) ∧ ws.length = 7 ∧ (∀ w ∈ ws, nameB w = true) ∧ opk f n = true ∧ n ≤ 200 ∧
  ∀ v H', Same H H' → Bd K H' (2 * n) (f + 2) v → Q v H'
theorem word_at {ws : List Str} {i : Int} (hw : ∀ w ∈ ws, nameB w = true) (h0 : 0 ≤ i) (h1 : i < ws.length) : ∃ w, atI (ws.map V.str) i = some (.str w) ∧ w.length ≤ 10 ∧ PyData.strOk w = true := by
  obtain ⟨x, h, hm⟩ := at_nat (xs := ws.map V.str) h0 (by rw [List.length_map]; exact h1)
  obtain ⟨w, hm', rfl⟩ := List.mem_map.mp hm
  exact ⟨w, h, name_fine (hw w hm')⟩
section
variable {P : Program} {w : World} {K : PySem.W.Frag} {mg : Str → Option Value} {base : Heap}
theorem scOfP : FnScope nOfP ["_law_words_here", "_law_many"] (defScope sOfP) := ⟨rfl, rfl, rfl, by decide +kernel, rfl, by decide +kernel, by decide +kernel⟩
theorem ok_ofP {f : Addr} {fd : FuncData} {n m : Nat} (F : Fun K "_law_of_points" "_law_of_points" sOfP f fd) (IH : Df P w K mg base C8.CX0 "_law_of_points" m ["_law_words_here", "_law_many"] (spOfP K n)) (T : Ct mg) :
    FnOk P w K mg base C8.CX0 (m + 1) f fd ["_law_words_here", "_law_many"] (spOfP K (n + 1)) := by
  refine F.ok scOfP (fun vs H Q E h => ?_) (fun cdv A outer s H vs Q E hr h => ?_)
  · obtain ⟨lw, ws, n, rfl, _⟩ := h
    rfl
  · obtain ⟨lw, ws, a, rfl, ew, wl, ww, ho, ha, k⟩ := h
    refine ⟨_, pss_cons (ps_if (pt_cmpR op_eq (pv 1) pe_int (nomark _)) (pss_one (ps_ret (pe_tup (pa_cons (pe_ix ix_list (pv 0) pe_int (fun _ _ => rfl)) pa_nil)))) pss_nil)
      (pss_cons (ps_if (pt_cmpR op_eq (pv 1) pe_int (nomark _)) (pss_one (ps_ret (pe_tup (pa_cons (pe_ix ix_list (pv 0) pe_int (fun _ _ => rfl)) (pa_cons (pe_tup (pa_cons (pe_ix ix_list (pv 0) pe_int (fun _ _ => rfl)) pa_nil)) pa_nil))))) pss_nil)
      (pss_cons (ps_if (pt_cmpR op_lt (pv 1) pe_int (nomark _)) (pss_one (ps_ret (pe_tup (pa_cons (pe_ix ix_list (pv 0) pe_int (fun _ _ => rfl)) (pa_cons (pe_tup (pa_cons (pe_ix ix_list (pv 0) pe_int (fun _ _ => rfl)) pa_nil)) (pa_cons (pe_df IH hr pass0 (pa_cons (pv 0) (pa_cons (pe_op op_sub (pv 1) pe_int) pa_nil)) (Nat.le_refl _)) pa_nil)))))) pss_nil)
      (pss_cons (ps_set (i := 2) scOfP.nd rfl (Or.inr rfl) (pe_op op_fdivN (pe_op op_sub (pv 1) pe_int) pe_int))
      (pss_cons (ps_setLc (i := 3) (own := [("_law_k", 4)]) (g := gName 4) (tt := tYes) rfl scOfP.nd rfl rfl (sw_true rfl rfl rfl (by decide +kernel)) (pi_range1 rfl T.range (pa_cons pe_int pa_nil)) (blkOk_by (N := nOfP) (sc := defScope sOfP) (by decide +kernel)) (fun _ _ _ _ _ => pg_name (i := 4) scOfP.nd rfl (Or.inl rfl)) (fun _ _ _ _ _ => pts_nil)
        (fun _ _ _ _ _ => pe_df IH hr pass0 (pa_cons (pv 0) (pa_cons (pv 2) pa_nil)) (Nat.le_refl _)))
      (pss_cons (ps_set (i := 5) scOfP.nd rfl (Or.inl rfl) (pe_df IH hr pass0 (pa_cons (pv 0) (pa_cons (pe_op op_sub (pe_op op_sub (pv 1) pe_int) (pe_op op_mul pe_int (pv 2))) pa_nil)) (Nat.le_refl _)))
      (pss_one (ps_ret (pe_op op_catA (pe_op op_catA (pe_tup (pa_cons (pe_ix ix_list (pv 0) pe_int (fun _ _ => rfl)) pa_nil)) (pe_callTy call_tuple_of (by rfl) T.tuple boot_tuple (pa_cons (pv 3) pa_nil))) (pe_tup (pa_cons (pv 5) pa_nil)))))))))), ?_⟩
    obtain ⟨w0, e0, f0⟩ := word_at (i := 0) ww (by decide) (by rw [wl]; decide)
    obtain ⟨w1, e1, f1⟩ := word_at (i := 1) ww (by decide) (by rw [wl]; decide)
    obtain ⟨w2, e2, f2⟩ := word_at (i := 2) ww (by decide) (by rw [wl]; decide)
    obtain ⟨w3, e3, f3⟩ := word_at (i := 3) ww (by decide) (by rw [wl]; decide)
    obtain ⟨w4, e4, f4⟩ := word_at (i := 4) ww (by decide) (by rw [wl]; decide)
    refine ⟨_, rfl, rfl, _, rfl, ?_⟩
    refine ite2 (fun h1 => ?_) (fun h1 => ?_)
    · have h1' : a = 1 := by
        have := V.int.inj (of_decide_eq_true h1)
        omega
      refine ⟨_, rfl, lw, _, _, _, rfl, rfl, SqL.of ew, e0, (by show 1 ≤ sizeLine; decide), fun p hp => ?_⟩
      exact k _ _ (Same.new (Same.refl H) hp) ((Bd.leaf (SqT.of upd_same) f0).mono (by omega) (by omega))
    have h1' : a ≠ 1 := fun z => h1 (by rw [z]; rfl)
    refine ⟨_, rfl, rfl, _, rfl, ?_⟩
    refine ite2 (fun h2 => ?_) (fun h2 => ?_)
    · have h2' : a = 2 := by
        have := V.int.inj (of_decide_eq_true h2)
        omega
      refine ⟨_, rfl, lw, _, _, _, rfl, rfl, SqL.of ew, e2, _, rfl, lw, _, _, _, rfl, rfl, SqL.of ew, e1, (by show 1 ≤ sizeLine; decide), fun p hp => ⟨(by show 2 ≤ sizeLine; decide), fun q hq => ?_⟩⟩
      have s1 := Same.new (o := .tup [.str w1]) (Same.refl H) hp
      have s2 := Same.new (o := .tup [.str w2, .ref p]) (Same.refl _) hq
      refine k _ _ (s1.trans s2) ((Bd.row (ys := [.ref p]) (SqT.of upd_same) f2 (fun y hy => by rw [List.mem_singleton.mp hy]; exact (Bd.leaf (SqT.of upd_same) f1).same s2) (by decide)).mono ?_ (by omega))
      simp only [List.length_cons, List.length_nil]
      omega
    have h2' : a ≠ 2 := fun z => h2 (by rw [z]; rfl)
    have hk : ((3 ≤ a ∧ a < 5) ∧ opk n (a - 2) = true) ∨ (5 ≤ a ∧ opk n ((a - 1) / 4) = true ∧ opk n (a - 1 - 3 * ((a - 1) / 4)) = true) := by
      unfold opk at ho
      rw [decide_eq_false h1', decide_eq_false h2', Bool.false_or, Bool.false_or, Bool.or_eq_true, Bool.and_eq_true, Bool.and_eq_true, Bool.and_eq_true, decide_eq_true_iff, decide_eq_true_iff] at ho
      exact ho
    refine ⟨_, rfl, _, _, rfl, rfl, _, rfl, ?_⟩
    refine ite2 (fun h3 => ?_) (fun h3 => ?_)
    · have h3' : (a : Int) < 5 := by simpa using h3
      obtain ⟨hka, hkb⟩ : (3 ≤ a ∧ a < 5) ∧ opk n (a - 2) = true := by
        rcases hk with h | h
        · exact h
        · omega
      have en : ((a : Int) - 2) = ((a - 2 : Nat) : Int) := by omega
      refine ⟨_, rfl, lw, _, _, _, rfl, rfl, SqL.of ew, e4, _, rfl, lw, _, _, _, rfl, rfl, SqL.of ew, e0, (by show 1 ≤ sizeLine; decide), fun p hp => ?_⟩
      have s1 := Same.new (o := .tup [.str w0]) (Same.refl H) hp
      refine ⟨_, rfl, _, rfl, _, _, rfl, rfl, lw, ws, a - 2, (by show [V.ref lw, V.int ((a : Int) - 2)] = _; rw [en]), s1 _ _ ew, wl, ww, hkb, by omega, fun v H2 s2 hv => ⟨(by show 3 ≤ sizeLine; decide), fun q hq => ?_⟩⟩
      have s3 := Same.new (o := .tup [.str w4, .ref p, v]) (Same.refl H2) hq
      refine k _ _ ((s1.trans s2).trans s3) ((Bd.row2 (SqT.of upd_same) f4 (((Bd.leaf (SqT.of upd_same) f0).same (s2.trans s3)).mono (Nat.le_refl 2) (show 2 ≤ n + 2 by omega)) (hv.same s3) (by omega)).mono (by omega) (by omega))
    · have h3' : ¬ (a : Int) < 5 := by simpa using h3
      obtain ⟨hka, hkb, hkc⟩ : 5 ≤ a ∧ opk n ((a - 1) / 4) = true ∧ opk n (a - 1 - 3 * ((a - 1) / 4)) = true := by
        rcases hk with h | h
        · omega
        · exact h
      refine ⟨_, rfl, _, _, rfl, rfl, _, _, rfl, rfl, ⟨by decide, by decide⟩, ?_⟩
      have hsh : ((a : Int) - 1).fdiv 4 = (((a - 1) / 4 : Nat) : Int) := by
        rw [show (a : Int) - 1 = ((a - 1 : Nat) : Int) by omega, Int.fdiv_eq_ediv_of_nonneg _ (by omega)]
        exact (Int.natCast_ediv _ _).symm
      have hsl : (a - 1) / 4 ≤ a - 1 := Nat.div_le_self _ _
      have h3s : 3 * ((a - 1) / 4) ≤ a - 1 := by omega
      generalize hsg : (a - 1) / 4 = sh at *
      refine ⟨3, rfl, by decide, by decide, fun D hD => ?_⟩
      refine lc_range (lo := 0) (n := 3) (fun i H4 => Same H H4 ∧ ∃ ys : List V, H4 D = some (.lst ys) ∧ ys.length = i ∧ ∀ y ∈ ys, Bd K H4 (2 * sh) (n + 2) y)
        ⟨Same.new (Same.refl H) hD, [], upd_same, rfl, fun _ z => absurd z (by simp)⟩ ?_ ?_
      · rintro i H4 hi ⟨s4, ys, eD, hyl, hys⟩
        refine ⟨rfl, _, rfl, _, rfl, lw, ws, sh, (by show [V.ref lw, V.int (((a : Int) - 1).fdiv 4)] = _; rw [hsh]), s4 _ _ ew, wl, ww, hkb, by omega, fun v H5 s5 hv => ?_⟩
        have eD5 := s5 _ _ eD
        have off : TupK H5 (upd H5 D (.lst (ys ++ [v]))) := (TupK.of (Ext.refl H5)).off eD5
        refine ⟨ys, eD5, by rw [sizeLine_eq]; omega, ?_, ys ++ [v], upd_same, by rw [List.length_append, hyl]; rfl, fun y hy => ?_⟩
        · exact fun b o e => by
            rw [upd_ne (ne_of_none e hD)]
            exact s5 _ _ (s4 b o e)
        · rcases List.mem_append.mp hy with hy | hy
          · exact ((hys y hy).same s5).tk off
          · rw [List.mem_singleton.mp hy]
            exact hv.tk off
      · rintro H4 ⟨s4, ys, eD, hyl, hys⟩
        have e5 : ((a : Int) - 1 - 3 * ((a : Int) - 1).fdiv 4) = ((a - 1 - 3 * sh : Nat) : Int) := by
          rw [hsh]
          omega
        refine ⟨_, rfl, _, rfl, _, _, rfl, rfl, _, rfl, _, _, rfl, rfl, ?_⟩
        have hl1 : ys.length = 3 := hyl
        refine ⟨?_, _, _, rfl, rfl, lw, ws, a - 1 - 3 * sh, (by show [V.ref lw, V.int ((a : Int) - 1 - 3 * ((a : Int) - 1).fdiv 4)] = _; rw [e5]), s4 _ _ ew, wl, ww, hkc, by omega, fun v H5 s5 hv => ?_⟩
        · exact .inl ⟨by decide, by decide⟩
        refine ⟨_, rfl, lw, _, _, _, rfl, rfl, SqL.of (s5 _ _ (s4 _ _ ew)), e3, (by show 1 ≤ sizeLine; decide), fun p hp => ?_⟩
        have s6 := Same.new (o := .tup [.str w3]) (Same.refl H5) hp
        refine ⟨_, rfl, D, ys, rfl, .inl ⟨SqL.of ((s5.trans s6) _ _ eD), fun u hu => ?_⟩⟩
        have s7 := Same.new (o := .tup ys) (Same.refl _) hu
        refine catA_go (SqT.of (s7 _ _ upd_same)) (SqT.of upd_same) ?_ fun r H8 s8 hr8 => ?_
        · simp only [List.length_cons, List.length_nil]
          rw [hl1, sizeLine_eq]
          omega
        refine ⟨_, rfl, (by show 1 ≤ sizeLine; decide), fun q hq => ?_⟩
        have s9 := Same.new (o := .tup [v]) (Same.refl H8) hq
        refine catA_go (sqt_same s9 hr8) (SqT.of upd_same) ?_ fun r2 H10 s10 hr10 => ?_
        · simp only [List.length_append, List.length_cons, List.length_nil]
          rw [hl1, sizeLine_eq]
          omega
        have s5x := ((s6.trans s7).trans s8).trans (s9.trans s10)
        obtain ⟨gs, i1, i2, i3, i4, i5⟩ := bds_in fun y hy => (hys y hy).same (s5.trans s5x)
        obtain ⟨g, j1, j2, j3, j4, j5, j6⟩ := hv.same s5x
        rw [hl1] at i3
        refine k _ _ ((s4.trans s5).trans s5x) ((Bd.mk (N := 3 * (2 * sh) + 2 * (a - 1 - 3 * sh)) (D := n + 2) (gs := gs ++ [g]) hr10 f3 (i1.app (.cons j1 .nil)) (fun z hz => ?_) ?_ ?_ (by omega) (fun z hz => by
          rcases List.mem_append.mp hz with hz | hz
          · exact i5 z hz
          · rw [List.mem_singleton.mp hz]
            exact j6)).mono (by omega) (by omega))
        · rcases List.mem_append.mp hz with hz | hz
          · exact i2 z hz
          · rw [List.mem_singleton.mp hz]
            exact ⟨j2, j3⟩
        · rw [List.map_append, List.sum_append, List.map_cons, List.map_nil]
          simp only [List.sum_cons, List.sum_nil]
          omega
        · rw [List.map_append, maxl_app, List.map_cons, List.map_nil]
          show max _ (max _ 0) ≤ _
          omega
end
end K1
set_option Elab.async false
set_option linter.all false
set_option maxRecDepth 100000
set_option maxHeartbeats 2000000
namespace K1
open PySem PySem.Spec PyProof.Rows L2
open PySem.W (EachIs)
abbrev sNear : Stmt := topS 70
abbrev nNear : List Str := ["_law_state", "_law_words_here", "_law_way", "_law_leaf_here", "_law_found", "_law_k", "_law_word", "_law_size", "_law_inner", "_law_many"]
def spNear (K : PySem.W.Frag) (TT : List (Addr × Str)) : Sp := fun vs H Q _ => ∃ (d g c lw : Addr) (t : Nat) (ws : List Str), vs = [.ref d, .ref lw] ∧ Wd TT d g c t H ∧ hid [d, g] H lw = some (.lst (ws.map V.str)) ∧ ws.length = 7 ∧ (∀ w ∈ ws, nameB w = true) ∧ t + 20 < 2 ^ 30 ∧
  ∀ v H', Bd K H' 320 18 v → Wd TT d g c (t + 20) H' → Kn d g H H' → Q v H'
/-- what stands while a draft near to a bound is made -/
structure Nb (K : PySem.W.Frag) (TT : List (Addr × Str)) (d g c lw lf : Addr) (ws : List Str) (lv : List V) (H0 : Hp) (t : Nat) (H : Hp) : Prop where
  W : Wd TT d g c t H
  n : Kn d g H0 H
  ew : H lw = some (.lst (ws.map V.str))
  el : H lf = some (.lst lv)
  lv : ∀ v ∈ lv, Bd K H 2 2 v
section
variable {K : PySem.W.Frag} {TT : List (Addr × Str)} {d g c lw lf : Addr} {ws : List Str} {lv : List V} {H0 H H' : Hp} {t t' : Nat}
theorem Nb.same (b : Nb K TT d g c lw lf ws lv H0 t H) (s : Same H H') : Nb K TT d g c lw lf ws lv H0 t H' := ⟨b.W.same s, b.n.trans (.same s), s _ _ b.ew, s _ _ b.el, fun v hv => (b.lv v hv).same s⟩
theorem Nb.mono (b : Nb K TT d g c lw lf ws lv H0 t H) (h : t ≤ t') : Nb K TT d g c lw lf ws lv H0 t' H := ⟨b.W.mono h, b.n, b.ew, b.el, b.lv⟩
theorem Nb.kp (b : Nb K TT d g c lw lf ws lv H0 t H) (wd : lw ≠ d) (wg : lw ≠ g) (ld : lf ≠ d) (lg : lf ≠ g) (G : Gen d g c t' H') (k : Kp d g H H') : Nb K TT d g c lw lf ws lv H0 t' H' := ⟨b.W.kp G k, b.n.trans (.kp k), k _ _ wd wg b.ew, k _ _ ld lg b.el, fun v hv => (b.lv v hv).tk (b.W.G.tk (.kp k))⟩
end
/-- [leaves[k % q] for k in range(n)] -/
theorem lc_leaf {K : PySem.W.Frag} {σ : L2.St} {H1 : Hp} {D lf : Addr} {lv : List V} {n : Nat} {q : Int} {Qd : Hp → Prop} (hD : H1 D = none) (el : H1 lf = some (.lst lv)) (hlv : ∀ v ∈ lv, Bd K H1 2 2 v) (q0 : 0 < q) (hq : q ≤ lv.length) (hn : n ≤ 1000)
    (hw : ∀ x, wipe ((wipe σ [5]).set 5 (some x)) [5] = wipe σ [5]) (h3 : ∀ x : V, ((wipe σ [5]).set 5 (some x))[3]? = some (some (.ref lf))) (h5 : ∀ x : V, ((wipe σ [5]).set 5 (some x))[5]? = some (some x))
    (fin : ∀ H ys, Same H1 H → H D = some (.lst ys) → ys.length = n → (∀ y ∈ ys, Bd K H 2 2 y) → Qd H) :
    ∃ W : Nat → Nat → Hp → Prop, (∃ m, W 0 m (upd H1 D (.lst []))) ∧ ∀ i m H, W i m H →
      ((Itr 0 n).stop i H ∧ Qd H) ∨ ((Itr 0 n).go i H ∧ ∃ Nx : Hp → Prop, (∀ H', Nx H' → ∃ m', m' < m ∧ W (i + 1) m' H') ∧ ∀ x H', (Itr 0 n).yld i H x H' → gName 5 x (wipe σ [5]) H' fun σ2 H2 => wipe σ2 [5] = wipe σ [5] ∧ tYes σ2 H2 fun b H3 =>
        if b = true then (tOp (rIxL K) (tVar 3) (tOp (rI (fun _ j => 0 < j) fun i j => .int (i % j)) (tVar 5) (tC (.int q)))) σ2 H3 fun y H4 => ∃ acc, H4 D = some (.lst acc) ∧ acc.length < sizeLine ∧ Nx (upd H4 D (.lst (acc ++ [y]))) else Nx H3) := by
  refine lc_range (lo := 0) (n := n) (fun i H4 => Same H1 H4 ∧ ∃ ys : List V, H4 D = some (.lst ys) ∧ ys.length = i ∧ ∀ y ∈ ys, Bd K H4 2 2 y) ⟨Same.new (Same.refl H1) hD, [], upd_same, rfl, fun _ z => absurd z (by simp)⟩ ?_ ?_
  · rintro i H4 hi ⟨s4, ys, eD, hyl, hys⟩
    have m0 : 0 ≤ ((0 : Int) + (i : Int)) % q := Int.emod_nonneg _ (by omega)
    have m1 : ((0 : Int) + (i : Int)) % q < q := Int.emod_lt_of_pos _ q0
    obtain ⟨x, hx, hm⟩ := at_nat (xs := lv) m0 (by omega)
    have off : TupK H4 (upd H4 D (.lst (ys ++ [x]))) := (TupK.of (Ext.refl H4)).off eD
    refine ⟨hw _, .ref lf, h3 _, _, h5 _, _, _, rfl, rfl, q0, lf, lv, _, x, rfl, rfl, SqL.of (s4 _ _ el), hx, ys, eD, by rw [sizeLine_eq]; omega, ?_, ys ++ [x], upd_same, by rw [List.length_append, hyl]; rfl, fun y hy => ?_⟩
    · exact fun b o e => by
        rw [upd_ne (ne_of_none e hD)]
        exact s4 b o e
    · rcases List.mem_append.mp hy with hy | hy
      · exact (hys y hy).tk off
      · rw [List.mem_singleton.mp hy]
        exact ((hlv x hm).same s4).tk off
  · rintro H4 ⟨s4, ys, eD, hyl, hys⟩
    exact fin H4 ys s4 eD hyl hys
def Jn (K : PySem.W.Frag) (TT : List (Addr × Str)) (d g c lw lf : Addr) (ws : List Str) (lv : List V) (H0 : Hp) (t : Nat) (way : Int) (i : Nat) (σ' : L2.St) (H' : Hp) : Prop :=
  ∃ (v4 : V) (v5 v6 v7 v8 v9 : Option V), σ' = [some (.ref d), some (.ref lw), some (.int way), some (.ref lf), some v4, v5, v6, v7, v8, v9] ∧ Nb K TT d g c lw lf ws lv H0 (t + 2 + 3 * i) H' ∧ Bd K H' 320 18 v4 ∧ ((i : Int) ≤ way → Bd K H' 2 2 v4)
section
variable {P : Program} {w : World} {K : PySem.W.Frag} {mg : Str → Option Value} {base : Heap}
theorem scNear : FnScope nNear ["_law_state", "_law_words_here"] (defScope sNear) := ⟨rfl, rfl, rfl, by decide +kernel, rfl, by decide +kernel, by decide +kernel⟩
theorem ok_near {f : Addr} {fd : FuncData} {TT : List (Addr × Str)} {m : Nat} (F : Fun K "_law_near_bounds" "_law_near_bounds" sNear f fd) (DT : Df P w K mg base C8.CX0 "_law_take" 2 ["_law_state", "_law_size"] spTake) (DO : Df P w K mg base C8.CX0 "_law_of_points" m ["_law_words_here", "_law_many"] (spOfP K 6)) (T : Ct mg) (hm : 2 ≤ m) :
    FnOk P w K mg base C8.CX0 (m + 1) f fd ["_law_state", "_law_words_here"] (spNear K TT) := by
  refine F.ok scNear (fun vs H Q E h => ?_) (fun cdv A outer s H vs Q E hr h => ?_)
  · obtain ⟨d, g, c, lw, t, ws, rfl, _⟩ := h
    rfl
  · obtain ⟨d, g, c, lw, t, ws, rfl, W, ewh, wl, ww, ht, k⟩ := h
    have hr2 : Room 2 _ := hr.mono hm
    refine ⟨_, pss_cons (ps_asg (pe_tup (pa_cons (pe_df DT hr2 pass0 (pa_cons (pv 0) (pa_cons pe_int pa_nil))) (pa_cons (pe_lst (pa_cons (pe_tup (pa_cons (pe_ix ix_list (pv 1) pe_int (fun _ _ => rfl)) pa_nil)) (pa_cons pe_str (pa_cons (pe_tup (pa_cons (pe_ix ix_list (pv 1) pe_int (fun _ _ => rfl)) pa_nil)) pa_nil)))) pa_nil))) (pg_tup rfl (pgs_cons (pg_name (i := 2) scNear.nd rfl (Or.inl rfl)) (pgs_cons (pg_name (i := 3) scNear.nd rfl (Or.inr rfl)) pgs_nil))))
      (pss_cons (ps_set (i := 4) scNear.nd rfl (Or.inl rfl) (pe_ix ix_list (pv 3) (pe_df DT hr2 pass0 (pa_cons (pv 0) (pa_cons pe_int pa_nil))) (fun _ _ => rfl)))
      (C8.pss_cut (ps_if (pt_cmpR op_eq (pv 2) pe_int (nomark _))
        (pss_one (ps_for PassesOwn.never rfl (pi_range1 rfl T.range (pa_cons (pe_op op_add pe_int (pe_df DT hr2 pass0 (pa_cons (pv 0) (pa_cons pe_int pa_nil)))) pa_nil)) (pg_name (i := 5) scNear.nd rfl (Or.inl rfl))
          (pss_one (ps_set (i := 4) scNear.nd rfl (Or.inl rfl) (pe_tup (pa_cons (pe_ix ix_list (pv 1) pe_int (fun _ _ => rfl)) (pa_cons (pv 4) pa_nil))))))) pss_nil)
      (C8.pss_cut (ps_if (pt_cmpR op_eq (pv 2) pe_int (nomark _))
        (pss_cons (ps_set (i := 6) scNear.nd rfl (Or.inl rfl) (pe_ix ix_list (pv 1) (pe_op op_add pe_int (pe_df DT hr2 pass0 (pa_cons (pv 0) (pa_cons pe_int pa_nil)))) (fun _ _ => rfl)))
        (pss_cons (ps_set (i := 7) scNear.nd rfl (Or.inl rfl) (pe_op op_add pe_int (pe_df DT hr2 pass0 (pa_cons (pv 0) (pa_cons pe_int pa_nil)))))
        (pss_one (ps_set (i := 4) scNear.nd rfl (Or.inl rfl) (pe_op op_catA (pe_tup (pa_cons (pv 6) pa_nil)) (pe_callTy call_tuple_of (by rfl) T.tuple boot_tuple (pa_cons (pe_lc (own := [("_law_k", 5)]) (g := gName 5) (tt := tYes) (te := tOp (rIxL K) (tVar 3) (tOp (rI (fun _ j => 0 < j) fun i j => .int (i % j)) (tVar 5) (tC (.int 3)))) rfl scNear.nd (pi_range1 rfl T.range (pa_cons (pv 7) pa_nil)) (blkOk_by (N := nNear) (sc := defScope sNear) (by decide +kernel)) (fun _ _ _ _ _ => pg_name (i := 5) scNear.nd rfl (Or.inl rfl)) (fun _ _ _ _ _ => pts_nil) (fun _ _ _ _ _ => pe_ix ix_list (pv 3) (pe_op op_mod (pv 5) pe_int) (fun _ _ => rfl))) pa_nil))))))) pss_nil)
      (C8.pss_cut (ps_if (pt_cmpR op_eq (pv 2) pe_int (nomark _))
        (pss_cons (ps_set (i := 6) scNear.nd rfl (Or.inl rfl) (pe_ix ix_list (pv 1) (pe_op op_add pe_int (pe_df DT hr2 pass0 (pa_cons (pv 0) (pa_cons pe_int pa_nil)))) (fun _ _ => rfl)))
        (pss_cons (ps_set (i := 7) scNear.nd rfl (Or.inl rfl) (pe_op op_add pe_int (pe_df DT hr2 pass0 (pa_cons (pv 0) (pa_cons pe_int pa_nil)))))
        (pss_cons (ps_set (i := 8) scNear.nd rfl (Or.inl rfl) (pe_op op_catA (pe_tup (pa_cons (pv 6) pa_nil)) (pe_callTy call_tuple_of (by rfl) T.tuple boot_tuple (pa_cons (pe_lc (own := [("_law_k", 5)]) (g := gName 5) (tt := tYes) (te := tOp (rIxL K) (tVar 3) (tOp (rI (fun _ j => 0 < j) fun i j => .int (i % j)) (tVar 5) (tC (.int 3)))) rfl scNear.nd (pi_range1 rfl T.range (pa_cons (pv 7) pa_nil)) (blkOk_by (N := nNear) (sc := defScope sNear) (by decide +kernel)) (fun _ _ _ _ _ => pg_name (i := 5) scNear.nd rfl (Or.inl rfl)) (fun _ _ _ _ _ => pts_nil) (fun _ _ _ _ _ => pe_ix ix_list (pv 3) (pe_op op_mod (pv 5) pe_int) (fun _ _ => rfl))) pa_nil))))
        (pss_cons (ps_set (i := 9) scNear.nd rfl (Or.inl rfl) (pe_op op_add pe_int (pe_df DT hr2 pass0 (pa_cons (pv 0) (pa_cons pe_int pa_nil)))))
        (pss_one (ps_set (i := 4) scNear.nd rfl (Or.inl rfl) (pe_op op_catA (pe_tup (pa_cons (pv 6) (pa_cons (pv 8) pa_nil))) (pe_callTy call_tuple_of (by rfl) T.tuple boot_tuple (pa_cons (pe_lc (own := [("_law_k", 5)]) (g := gName 5) (tt := tYes) (te := tOp (rIxL K) (tVar 3) (tOp (rI (fun _ j => 0 < j) fun i j => .int (i % j)) (tVar 5) (tC (.int 2)))) rfl scNear.nd (pi_range1 rfl T.range (pa_cons (pv 9) pa_nil)) (blkOk_by (N := nNear) (sc := defScope sNear) (by decide +kernel)) (fun _ _ _ _ _ => pg_name (i := 5) scNear.nd rfl (Or.inl rfl)) (fun _ _ _ _ _ => pts_nil) (fun _ _ _ _ _ => pe_ix ix_list (pv 3) (pe_op op_mod (pv 5) pe_int) (fun _ _ => rfl))) pa_nil))))))))) pss_nil)
      (C8.pss_cut (ps_if (pt_cmpR op_eq (pv 2) pe_int (nomark _))
        (pss_one (ps_set (i := 4) scNear.nd rfl (Or.inl rfl) (pe_df DO hr pass0 (pa_cons (pv 1) (pa_cons (pe_op op_add pe_int (pe_df DT hr2 pass0 (pa_cons (pv 0) (pa_cons pe_int pa_nil)))) pa_nil)) (Nat.le_refl _)))) pss_nil)
      (C8.pss_cut (ps_if (pt_cmpR op_eq (pv 2) pe_int (nomark _))
        (pss_one (ps_for PassesOwn.never rfl (pi_range1 rfl T.range (pa_cons (pe_op op_add pe_int (pe_df DT hr2 pass0 (pa_cons (pv 0) (pa_cons pe_int pa_nil)))) pa_nil)) (pg_name (i := 5) scNear.nd rfl (Or.inl rfl))
          (pss_one (ps_set (i := 4) scNear.nd rfl (Or.inl rfl) (pe_tup (pa_cons (pe_ix ix_list (pv 1) (pe_op op_add pe_int (pe_op op_mod (pv 5) pe_int)) (fun _ _ => rfl)) (pa_cons (pv 4) (pa_cons (pe_ix ix_list (pv 3) (pe_op op_mod (pv 5) pe_int) (fun _ _ => rfl)) pa_nil)))))))) pss_nil)
      (pss_one (ps_ret (pv 4))))))))), ?_⟩
    obtain ⟨wd, wg, ew⟩ := hid_got ewh
    obtain ⟨w0, e0, f0⟩ := word_at (i := 0) ww (by decide) (by rw [wl]; decide)
    obtain ⟨w1, e1, f1⟩ := word_at (i := 1) ww (by decide) (by rw [wl]; decide)
    obtain ⟨w2, e2, f2⟩ := word_at (i := 2) ww (by decide) (by rw [wl]; decide)
    refine ⟨_, rfl, d, g, c, t, 5, rfl, W.G, by omega, by decide, by decide, fun way H1 wy0 wy1 G1 k1 => ?_⟩
    have W1 := W.kp G1 k1
    have ew1 := k1 _ _ wd wg ew
    refine ⟨_, rfl, lw, _, _, _, rfl, rfl, SqL.of ew1, e0, (by show 1 ≤ sizeLine; decide), fun a0 ha0 => ?_⟩
    have s2 := Same.new (o := .tup [.str w0]) (Same.refl H1) ha0
    refine ⟨_, rfl, lw, _, _, _, rfl, rfl, SqL.of (s2 _ _ ew1), e1, (by show 1 ≤ sizeLine; decide), fun a1 ha1 => ⟨(by show 3 ≤ sizeLine; decide), fun lf hlf => ⟨(by show 2 ≤ sizeLine; decide), fun pt hpt => ?_⟩⟩⟩
    have s3 := Same.new (o := .tup [.str w1]) (Same.refl _) ha1
    have s4 := Same.new (o := .lst [.ref a0, .str "A", .ref a1]) (Same.refl _) hlf
    have s5 := Same.new (o := .tup [.int way, .ref lf]) (Same.refl _) hpt
    obtain ⟨ld, lg⟩ := ((W1.same s2).same s3).G.nd hlf
    have s35 := s3.trans (s4.trans s5)
    have b0 : Nb K TT d g c lw lf ws [.ref a0, .str "A", .ref a1] H (t + 1) _ := ⟨W1.same (s2.trans s35), (Kn.kp k1).trans (.same (s2.trans s35)), (s2.trans s35) _ _ ew1, s5 _ _ upd_same, fun v hv => by
      simp only [List.mem_cons, List.not_mem_nil, or_false] at hv
      rcases hv with rfl | rfl | rfl
      · exact (Bd.leaf (SqT.of upd_same) f0).same s35
      · exact ⟨.s "A", .s _, by simp [shp], fine_s (by decide +kernel), by rw [sz_s]; decide, by rw [dp_s]; decide, gpb_s (by decide +kernel)⟩
      · exact (Bd.leaf (SqT.of upd_same) f1).same (s4.trans s5)⟩
    refine ⟨pt, _, rfl, SqT.of upd_same, rfl, _, _, rfl, _, _, rfl, rfl, ?_⟩
    generalize hlv : ([.ref a0, .str "A", .ref a1] : List V) = lv at b0
    have lvl : lv.length = 3 := by rw [← hlv]; rfl
    refine ⟨_, rfl, _, rfl, d, g, c, _, 3, rfl, b0.W.G, by omega, by decide, by decide, fun u H2 u0 u1 G2 k2 => ?_⟩
    have b1 := b0.kp wd wg ld lg G2 k2
    obtain ⟨x, hx, hxm⟩ := at_nat (xs := lv) u0 (by omega)
    refine ⟨lf, lv, u, x, rfl, rfl, SqL.of b1.el, hx, ?_⟩
    have fx := b1.lv x hxm
    -- the rest of each if that doesn't hold
    have skip : ∀ (i : Nat) (σ' : L2.St) (H' : Hp), Jn K TT d g c lw lf ws lv H t way i σ' H' → Jn K TT d g c lw lf ws lv H t way (i + 1) σ' H' := fun i σ' H' ⟨v4, v5, v6, v7, v8, v9, h1, h2, h3, h4⟩ => ⟨v4, v5, v6, v7, v8, v9, h1, h2.mono (by omega), h3, fun z => h4 (by omega)⟩
    have bd4 : ∀ {H' : Hp} {v : V} {N D : Nat}, Bd K H' N D v → N ≤ 320 → D ≤ 18 → Bd K H' 320 18 v := fun q a b => q.mono a b
    refine ⟨Jn K TT d g c lw lf ws lv H t way 1, ?_, ?_⟩
    · refine ⟨_, rfl, rfl, _, rfl, ?_⟩
      refine ite2 (fun h1 => ?_) (fun h1 => skip 0 _ _ ⟨x, none, none, none, none, none, rfl, b1, bd4 fx (by decide) (by decide), fun _ => fx⟩)
      have h1' : way = 0 := V.int.inj (of_decide_eq_true h1)
      refine ⟨_, rfl, d, g, c, _, 4, rfl, b1.W.G, by omega, by decide, by decide, fun u2 H3 v0 v1 G3 k3 => ⟨_, _, rfl, rfl, ?_⟩⟩
      have b2 := b1.kp wd wg ld lg G3 k3
      obtain ⟨U, rfl⟩ := Int.eq_ofNat_of_zero_le v0
      refine ⟨10 + U, (by show [V.int ((10 : Int) + (U : Int))] = _; rfl), by omega, by omega, ?_⟩
      refine for_range (lo := 0) (n := 10 + U) (fun i σ' H' => ∃ (v4 : V) (v5 : Option V), σ' = [some (.ref d), some (.ref lw), some (.int way), some (.ref lf), some v4, v5, none, none, none, none] ∧ Nb K TT d g c lw lf ws lv H (t + 3) H' ∧ Bd K H' (2 + 2 * i) (2 + i) v4)
        ⟨x, none, rfl, b2, (fx.tk (b1.W.G.tk (.kp k3))).mono (by omega) (by omega)⟩ ?_ ?_
      · rintro i σ' H' hi ⟨v4, v5, rfl, b, q⟩
        refine ⟨_, rfl, lw, _, _, _, rfl, rfl, SqL.of b.ew, e2, _, rfl, (by show 2 ≤ sizeLine; decide), fun p hp => ?_⟩
        have s := Same.new (o := .tup [.str w2, v4]) (Same.refl H') hp
        refine ⟨.ref p, _, rfl, b.same s, (Bd.row (ys := [v4]) (N := 2 + 2 * i) (D := 2 + i) (SqT.of upd_same) f2 (fun y hy => by rw [List.mem_singleton.mp hy]; exact q.same s) (by omega)).mono ?_ (by omega)⟩
        simp only [List.length_cons, List.length_nil]
        omega
      · rintro σ' H' ⟨v4, v5, rfl, b, q⟩
        exact ⟨v4, v5, none, none, none, none, rfl, b.mono (by omega), bd4 q (by omega) (by omega), fun z => by omega⟩
    rintro σ1 H3 J1
    refine ⟨Jn K TT d g c lw lf ws lv H t way 2, ?_, ?_⟩
    · obtain ⟨v4, v5, v6, v7, v8, v9, rfl, b, q, q0⟩ := J1
      refine ⟨_, rfl, rfl, _, rfl, ?_⟩
      refine ite2 (fun h1 => ?_) (fun h1 => skip 1 _ _ ⟨v4, v5, v6, v7, v8, v9, rfl, b, q, q0⟩)
      have h1' : way = 1 := V.int.inj (of_decide_eq_true h1)
      refine ⟨_, rfl, _, rfl, d, g, c, _, 2, rfl, b.W.G, by omega, by decide, by decide, fun u2 H4 x0 x1 G4 k4 => ?_⟩
      have b2 := b.kp wd wg ld lg G4 k4
      obtain ⟨wz, ez, fz⟩ := word_at (i := 5 + u2) ww (by omega) (by rw [wl]; omega)
      refine ⟨_, _, rfl, rfl, lw, _, _, _, rfl, rfl, SqL.of b2.ew, ez, ?_⟩
      refine ⟨_, rfl, d, g, c, _, 3, rfl, b2.W.G, by omega, by decide, by decide, fun u3 H5 y0 y1 G5 k5 => ⟨_, _, rfl, rfl, ?_⟩⟩
      have b3 := b2.kp wd wg ld lg G5 k5
      obtain ⟨U, rfl⟩ := Int.eq_ofNat_of_zero_le y0
      refine ⟨_, rfl, (by show 1 ≤ sizeLine; decide), fun p hp => ?_⟩
      have s6 := Same.new (o := .tup [.str wz]) (Same.refl H5) hp
      have b4 := b3.same s6
      refine ⟨_, rfl, 7 + U, (by show [V.int ((7 : Int) + (U : Int))] = _; rfl), by omega, by omega, fun D hD => ?_⟩
      refine lc_leaf (n := 7 + U) hD b4.el b4.lv (by decide) (by rw [lvl]; decide) (by omega) (fun _ => rfl) (fun _ => rfl) (fun _ => rfl) fun H7 ys s7 eD hyl hys => ?_
      refine ⟨D, ys, rfl, .inl ⟨SqL.of eD, fun r hr => ?_⟩⟩
      have s8 := Same.new (o := .tup ys) (Same.refl H7) hr
      refine catA_go (SqT.of ((s7.trans s8) _ _ upd_same)) (SqT.of upd_same) ?_ fun r2 H9 s9 hr9 => ?_
      · simp only [List.length_cons, List.length_nil]
        rw [sizeLine_eq]
        omega
      have sA := s8.trans s9
      exact ⟨.ref r2, _, _, _, _, _, rfl, (b4.same (s7.trans sA)).mono (by omega), bd4 (Bd.row hr9 fz (fun y hy => (hys y hy).same sA) (by decide)) (by show 2 + ys.length * 2 ≤ 320; omega) (by decide), fun z => by omega⟩
    rintro σ2 H4 J2
    refine ⟨Jn K TT d g c lw lf ws lv H t way 3, ?_, ?_⟩
    · obtain ⟨v4, v5, v6, v7, v8, v9, rfl, b, q, q0⟩ := J2
      refine ⟨_, rfl, rfl, _, rfl, ?_⟩
      refine ite2 (fun h1 => ?_) (fun h1 => skip 2 _ _ ⟨v4, v5, v6, v7, v8, v9, rfl, b, q, q0⟩)
      have h1' : way = 2 := V.int.inj (of_decide_eq_true h1)
      refine ⟨_, rfl, _, rfl, d, g, c, _, 2, rfl, b.W.G, by omega, by decide, by decide, fun u2 H4 x0 x1 G4 k4 => ?_⟩
      have b2 := b.kp wd wg ld lg G4 k4
      obtain ⟨wz, ez, fz⟩ := word_at (i := 5 + u2) ww (by omega) (by rw [wl]; omega)
      refine ⟨_, _, rfl, rfl, lw, _, _, _, rfl, rfl, SqL.of b2.ew, ez, ?_⟩
      refine ⟨_, rfl, d, g, c, _, 6, rfl, b2.W.G, by omega, by decide, by decide, fun u3 H5 y0 y1 G5 k5 => ⟨_, _, rfl, rfl, ?_⟩⟩
      have b3 := b2.kp wd wg ld lg G5 k5
      obtain ⟨U, rfl⟩ := Int.eq_ofNat_of_zero_le y0
      refine ⟨_, rfl, (by show 1 ≤ sizeLine; decide), fun p hp => ?_⟩
      have s6 := Same.new (o := .tup [.str wz]) (Same.refl H5) hp
      have b4 := b3.same s6
      refine ⟨_, rfl, 2 + U, (by show [V.int ((2 : Int) + (U : Int))] = _; rfl), by omega, by omega, fun D hD => ?_⟩
      refine lc_leaf (n := 2 + U) hD b4.el b4.lv (by decide) (by rw [lvl]; decide) (by omega) (fun _ => rfl) (fun _ => rfl) (fun _ => rfl) fun H7 ys s7 eD hyl hys => ?_
      refine ⟨D, ys, rfl, .inl ⟨SqL.of eD, fun r hr => ?_⟩⟩
      have s8 := Same.new (o := .tup ys) (Same.refl H7) hr
      refine catA_go (SqT.of ((s7.trans s8) _ _ upd_same)) (SqT.of upd_same) ?_ fun r2 H9 s9 hr9 => ?_
      · simp only [List.length_cons, List.length_nil]
        rw [sizeLine_eq]
        omega
      have sA := s8.trans s9
      have b5 := b4.same (s7.trans sA)
      have qi : Bd K H9 16 3 (.ref r2) := (Bd.row hr9 fz (fun y hy => (hys y hy).same sA) (by decide)).mono (by show 2 + ys.length * 2 ≤ 16; omega) (by decide)
      refine ⟨_, rfl, d, g, c, _, 5, rfl, b5.W.G, by omega, by decide, by decide, fun u4 H10 z0 z1 G10 k10 => ⟨_, _, rfl, rfl, ?_⟩⟩
      have b6 := b5.kp wd wg ld lg G10 k10
      have qi6 := qi.tk (b5.W.G.tk (.kp k10))
      obtain ⟨Z, rfl⟩ := Int.eq_ofNat_of_zero_le z0
      refine ⟨_, rfl, _, rfl, (by show 2 ≤ sizeLine; decide), fun p2 hp2 => ?_⟩
      have s11 := Same.new (o := .tup [.str wz, .ref r2]) (Same.refl H10) hp2
      have b7 := b6.same s11
      refine ⟨_, rfl, 1 + Z, (by show [V.int ((1 : Int) + (Z : Int))] = _; rfl), by omega, by omega, fun D2 hD2 => ?_⟩
      refine lc_leaf (n := 1 + Z) hD2 b7.el b7.lv (by decide) (by rw [lvl]; decide) (by omega) (fun _ => rfl) (fun _ => rfl) (fun _ => rfl) fun H12 ys2 s12 eD2 hyl2 hys2 => ?_
      refine ⟨D2, ys2, rfl, .inl ⟨SqL.of eD2, fun r3 hr3 => ?_⟩⟩
      have s13 := Same.new (o := .tup ys2) (Same.refl H12) hr3
      refine catA_go (SqT.of ((s12.trans s13) _ _ upd_same)) (SqT.of upd_same) ?_ fun r4 H14 s14 hr14 => ?_
      · simp only [List.length_cons, List.length_nil]
        rw [sizeLine_eq]
        omega
      have sB := s13.trans s14
      refine ⟨.ref r4, _, _, _, _, _, rfl, (b7.same (s12.trans sB)).mono (by omega), bd4 (Bd.row (ys := .ref r2 :: ys2) (N := 16) (D := 3) hr14 fz (fun y hy => ?_) (by decide)) (by show 2 + (ys2.length + 1) * 16 ≤ 320; omega) (by decide), fun z => by omega⟩
      rcases List.mem_cons.mp hy with rfl | hy
      · exact qi6.same (s11.trans (s12.trans sB))
      · exact ((hys2 y hy).same sB).mono (by decide) (by decide)
    rintro σ3 H5 J3
    refine ⟨Jn K TT d g c lw lf ws lv H t way 4, ?_, ?_⟩
    · obtain ⟨v4, v5, v6, v7, v8, v9, rfl, b, q, q0⟩ := J3
      refine ⟨_, rfl, rfl, _, rfl, ?_⟩
      refine ite2 (fun h1 => ?_) (fun h1 => skip 3 _ _ ⟨v4, v5, v6, v7, v8, v9, rfl, b, q, q0⟩)
      have h1' : way = 3 := V.int.inj (of_decide_eq_true h1)
      refine ⟨_, rfl, _, rfl, d, g, c, _, 5, rfl, b.W.G, by omega, by decide, by decide, fun u2 H4 x0 x1 G4 k4 => ⟨_, _, rfl, rfl, ?_⟩⟩
      have b2 := b.kp wd wg ld lg G4 k4
      obtain ⟨U, rfl⟩ := Int.eq_ofNat_of_zero_le x0
      have hU : U < 5 := by omega
      refine ⟨lw, ws, 78 + U, (by show [V.ref lw, V.int ((78 : Int) + (U : Int))] = _; rfl), b2.ew, wl, ww, opk_82 ⟨U, hU⟩, by omega, fun v H6 s6 hv => ?_⟩
      exact ⟨v, _, _, _, _, _, rfl, (b2.same s6).mono (by omega), bd4 hv (by omega) (by decide), fun z => by omega⟩
    rintro σ4 H6 J4
    refine ⟨Jn K TT d g c lw lf ws lv H t way 5, ?_, ?_⟩
    · obtain ⟨v4, v5, v6, v7, v8, v9, rfl, b, q, q0⟩ := J4
      refine ⟨_, rfl, rfl, _, rfl, ?_⟩
      refine ite2 (fun h1 => ?_) (fun h1 => skip 4 _ _ ⟨v4, v5, v6, v7, v8, v9, rfl, b, q, q0⟩)
      have h1' : way = 4 := V.int.inj (of_decide_eq_true h1)
      refine ⟨_, rfl, d, g, c, _, 5, rfl, b.W.G, by omega, by decide, by decide, fun u2 H3 x0 x1 G3 k3 => ⟨_, _, rfl, rfl, ?_⟩⟩
      have b2 := b.kp wd wg ld lg G3 k3
      obtain ⟨U, rfl⟩ := Int.eq_ofNat_of_zero_le x0
      refine ⟨9 + U, (by show [V.int ((9 : Int) + (U : Int))] = _; rfl), by omega, by omega, ?_⟩
      refine for_range (lo := 0) (n := 9 + U) (fun i σ' H' => ∃ (v4 : V) (v5 : Option V), σ' = [some (.ref d), some (.ref lw), some (.int way), some (.ref lf), some v4, v5, v6, v7, v8, v9] ∧ Nb K TT d g c lw lf ws lv H (t + 2 + 3 * 4 + 1) H' ∧ Bd K H' (2 + 4 * i) (2 + i) v4)
        ⟨v4, v5, rfl, b2, ((q0 (by omega)).tk (b.W.G.tk (.kp k3))).mono (by omega) (by omega)⟩ ?_ ?_
      · rintro i σ' H' hi ⟨v4, v5, rfl, b, q⟩
        have m0 : 0 ≤ ((0 : Int) + (i : Int)) % 3 := Int.emod_nonneg _ (by omega)
        have m1 : ((0 : Int) + (i : Int)) % 3 < 3 := Int.emod_lt_of_pos _ (by decide)
        have m2 : 0 ≤ ((0 : Int) + (i : Int)) % 2 := Int.emod_nonneg _ (by omega)
        have m3 : ((0 : Int) + (i : Int)) % 2 < 2 := Int.emod_lt_of_pos _ (by decide)
        obtain ⟨wz, ez, fz⟩ := word_at (i := 4 + ((0 : Int) + (i : Int)) % 3) ww (by omega) (by rw [wl]; omega)
        obtain ⟨y, hy, hym⟩ := at_nat (xs := lv) m2 (by rw [lvl]; omega)
        refine ⟨_, rfl, _, rfl, _, _, rfl, rfl, (by show (0 : Int) < 3; decide), _, _, rfl, rfl, lw, _, _, _, rfl, rfl, SqL.of b.ew, ez, _, rfl, _, rfl, _, rfl, _, _, rfl, rfl, (by show (0 : Int) < 2; decide), lf, lv, _, y, rfl, rfl, SqL.of b.el, hy, (by show 3 ≤ sizeLine; decide), fun p hp => ?_⟩
        have s := Same.new (o := .tup [.str wz, v4, y]) (Same.refl H') hp
        refine ⟨.ref p, _, rfl, b.same s, (Bd.row2 (SqT.of upd_same) fz (q.same s) (((b.lv y hym).same s).mono (Nat.le_refl 2) (show 2 ≤ 2 + i by omega)) (by omega)).mono (by omega) (by omega)⟩
      · rintro σ' H' ⟨v4, v5, rfl, b, q⟩
        exact ⟨v4, v5, v6, v7, v8, v9, rfl, b.mono (by omega), bd4 q (by omega) (by omega), fun z => by omega⟩
    rintro σ5 H7 ⟨v4, v5, v6, v7, v8, v9, rfl, b, q, _⟩
    exact ⟨_, rfl, k v4 H7 q (b.W.mono (by omega)) b.n⟩
end
end K1
set_option Elab.async false
set_option linter.all false
set_option maxRecDepth 100000
set_option maxHeartbeats 2000000
namespace K1
open PySem PySem.Spec PyProof.Rows L2
open PySem.W (EachIs)
section
variable {X : Cx} {CX : CXT} {k n : Nat} {f : Addr} {fd : FuncData} {ps ks : List Str} {sp : Sp} {E : XK} {x : Str} {p pos : Pos} {kws : List Keyword} {tk : TA} {g : List Value → List Value → List Value} {gV : List V → List V → List V}
theorem passX : Passes (L2.CX X.prog X.w) X E0 := fun _ _ _ _ _ _ _ h => by
  obtain ⟨_, _, _, _, _, _, _, _, _, _, _, _, z⟩ := h
  exact z.elim
/-- f(k = v, ..): by name alone -/
theorem pe_callN0 (F : FnOk X.prog X.w X.K X.mg X.base CX k f fd ps sp) (hr : Room k X.A) (hg : Gl X x) (hm : X.mg x = some (.ref f)) (hk : PySem.W.keepIn X.K (.ref f) = true) (hb : KBn X.K fd ps 0 ks g gV) (hx : Passes CX X E) (hkw : PK X kws tk)
    (hall : (backToKw pos (keywordEach kws X.env)).all (·.1.isSome) = true := by rfl) (hks : (backToKw pos (keywordEach kws X.env)).filterMap (·.1) = ks := by rfl) (hdb : (x == ("__debug__" : Str)) = false := by decide)
    (hpl : ((backTo pos (starEach [] X.env)).any (·.1) || (backToKw pos (keywordEach kws X.env)).any (·.1.isNone)) = false := by rfl) :
    PE X (.Call (.Name x p) [] kws pos) (tCallN 0 ks.length sp gV E tNil tk) := by
  refine ⟨fun pins s σ H Q I h => ?_⟩
  refine wpAny_Call_Name_kw (ld_glob I hg hm ?_ hdb)
  refine PySem.W.callWith_KW0 (h₀ := X.base) I.ok.mod.kin hk hall ?_ hpl
  refine thn (hkw.run pos pins s σ H _ I h) fun ws s2 ⟨zs, H2, I2, rz, l1, l2, q2⟩ => ⟨I2.kIn, ?_⟩
  rw [hks]
  exact run_fnN (us := []) (vs := []) F hr hb hx I2 .nil rz rfl l2 q2
end
theorem vals_rev {zs : List V} {ws : List Value} (r : Vals zs ws) : Vals zs.reverse ws.reverse := by
  induction r with
  | nil => exact .nil
  | cons h t ih =>
    rw [List.reverse_cons, List.reverse_cons]
    exact ih.append (.cons h .nil)
theorem same_made {H H' : Hp} {x dx C : Addr} (hx : H x = none) (hdx : H dx = none) (h : ∀ b o, (upd (upd H dx (.own x)) x (.ins C dx [])) b = some o → b ≠ x → H' b = some o) : Same H H' := fun b o e => by
  have n1 := ne_of_none e hx
  have n2 := ne_of_none e hdx
  exact h b o (by rw [upd_ne n1, upd_ne n2]; exact e) n1
theorem same_made0 {H : Hp} {x dx C : Addr} (hx : H x = none) (hdx : H dx = none) : Same H (upd (upd H dx (.own x)) x (.ins C dx [])) := fun b o e => by
  rw [upd_ne (ne_of_none e hx), upd_ne (ne_of_none e hdx)]
  exact e
theorem row_sign {l : Ln} (h1 : nameB l.1 = true) (h2 : l.2 ∈ sorts7) : signD (rowD l) = true := by
  obtain ⟨n, k, m⟩ := l
  simp only at h1 h2
  have key : ∀ s ∈ sorts7, (if PyData.eqv (.str s.1) (.str "plain") then decide (0 ≤ (s.2 : Int) ∧ (s.2 : Int) ≤ 4) else kindsD (.str s.1) && decide ((s.2 : Int) = 2)) = true := by decide +kernel
  show (nameD (.str n) && if PyData.eqv (.str k) (.str "plain") then decide (0 ≤ (m : Int) ∧ (m : Int) ≤ 4) else kindsD (.str k) && decide ((m : Int) = 2)) = true
  rw [key (k, m) h2, show nameD (.str n) = nameB n from rfl, h1]
  rfl
theorem rows_go : ∀ (L : List Ln) (seen : List Str), (∀ l ∈ L, signD (rowD l) = true) → (L.map (·.1)).Nodup → (∀ x ∈ L.map (·.1), x ∉ seen) → goRows (L.map rowD) seen = true
  | [], _, _, _, _ => rfl
  | l :: L, seen, h1, h2, h3 => by
    have h2' := List.nodup_cons.mp (by rw [List.map_cons] at h2; exact h2)
    show (signD (rowD l) && (!decide (nameOf (rowD l) ∈ seen) && goRows (L.map rowD) (seen ++ [nameOf (rowD l)]))) = true
    have e : nameOf (rowD l) = l.1 := rfl
    rw [e, h1 l List.mem_cons_self, decide_eq_false (h3 l.1 (by rw [List.map_cons]; exact List.mem_cons_self)), rows_go L (seen ++ [l.1]) (fun m hm => h1 m (List.mem_cons_of_mem _ hm)) h2'.2 (fun x hx hs => ?_)]
    · rfl
    · rcases List.mem_append.mp hs with hs | hs
      · exact h3 x (by rw [List.map_cons]; exact List.mem_cons_of_mem _ hx) hs
      · rw [List.mem_singleton.mp hs] at hx
        exact h2'.1 hx
theorem Sn.signs {L : List Ln} (S : Sn L) : signsD (.list (L.map rowD)) = true := by
  have hl : 1 ≤ L.length := List.length_pos_iff.mpr S.ne
  have hl2 := S.ok.len
  unfold signsD
  show (true && (decide (1 ≤ (L.map rowD).length ∧ (L.map rowD).length ≤ 24) && goRows (L.map rowD) [])) = true
  rw [List.length_map, decide_eq_true ⟨hl, hl2⟩, rows_go L [] (fun l h => row_sign (S.ok.nm l h) (S.rw l h)) S.nd (fun _ _ z => absurd z (by simp))]
  rfl
theorem fineAll_of {ds : List PyData} (h : ∀ e ∈ ds, fineD e = true) : fineAll ds = true := by
  induction ds with
  | nil => rfl
  | cons a r ih =>
    show (fineD a && fineAll r) = true
    rw [h a List.mem_cons_self, ih fun e he => h e (List.mem_cons_of_mem _ he)]
    rfl
theorem layAll_of {ds : List PyData} (h : ∀ e ∈ ds, PyData.canLay0 e = true) : PyData.canLayAll0 ds = true := by
  induction ds with
  | nil => rfl
  | cons a r ih =>
    simp only [PyData.canLayAll0, Bool.and_eq_true]
    exact ⟨h a List.mem_cons_self, ih fun e he => h e (List.mem_cons_of_mem _ he)⟩
theorem depAll_of {n : Nat} {ds : List PyData} (h : ∀ e ∈ ds, PyData.depth e ≤ n) : PyData.depthAll ds ≤ n := by
  induction ds with
  | nil => simp [PyData.depthAll]
  | cons a r ih =>
    simp only [PyData.depthAll]
    exact Nat.max_le.mpr ⟨h a List.mem_cons_self, ih fun e he => h e (List.mem_cons_of_mem _ he)⟩
theorem Sn.data {L : List Ln} (S : Sn L) : okD (.list (L.map rowD)) = true := by
  have hl2 := S.ok.len
  have key : ∀ e ∈ L.map rowD, fineD e = true ∧ PyData.canLay0 e = true ∧ PyData.depth e ≤ 20 := fun e he => by
    obtain ⟨l, hl, rfl⟩ := List.mem_map.mp he
    obtain ⟨_, _, k1, k2⟩ := kinds_ok _ (S.ok.kd l hl)
    obtain ⟨f1, f2⟩ := name_fine (S.ok.nm l hl)
    obtain ⟨n, k, m⟩ := l
    refine ⟨?_, ?_, ?_⟩
    · simp only [rowD, fineD, fineAll, List.length_cons, List.length_nil, Bool.and_eq_true, decide_eq_true_iff]
      simp only at f1 k1
      refine ⟨by omega, by omega, by omega, trivial, trivial⟩
    · simp only [rowD, PyData.canLay0, PyData.canLayAll0, Bool.and_eq_true]
      exact ⟨f2, k2, trivial, trivial⟩
    · simp [rowD, PyData.depth, PyData.depthAll]
  refine ok_of ?_ ?_ ?_
  · simp only [PyData.canLay0]
    exact layAll_of fun e he => (key e he).2.1
  · show (decide ((L.map rowD).length ≤ 1000) && fineAll (L.map rowD)) = true
    rw [List.length_map, decide_eq_true (by omega : L.length ≤ 1000), fineAll_of fun e he => (key e he).1]
    rfl
  · have := depAll_of (n := 20) fun e he => (key e he).2.2
    simp only [PyData.depth]
    omega
end K1
set_option Elab.async false
set_option linter.all false
set_option maxRecDepth 100000
set_option maxHeartbeats 4000000
/-! sets of texts: set(xs), sorted(set) -/
namespace SetS
open PySem PySem.Spec PyProof.Rows L2
abbrev Row := Int × Value
def txt (e : Row) : Str := match e.2 with | .str x _ => x | _ => Str.empty
def Fit (w : World) (e : Row) : Prop := ∃ x t, e.2 = Value.str x t ∧ e.1 = hashStr w x
/-- a set of just these texts, its object, rows, age and table -/
structure At (w : World) (h : Heap) (a : Addr) (L : List Str) (o : Obj) (es : Array Row) (ep : Nat) (t : SetTable) : Prop where
  ob : h.get? a = some o
  ex : o.ExactSet
  da : o.data = .set es ep t
  good : ∀ e ∈ es.toList, Fit w e
  keys : (es.toList.map txt).Perm L
  nd : L.Nodup
  few : L.length < scanBound
  fits : t.fits es.size = true
  ris : Ris t.place.toList
  led : w.params.followText "set-order" = true ∨ t.led = true
def Is (w : World) (h : Heap) (a : Addr) (L : List Str) : Prop := ∃ o es ep t, At w h a L o es ep t
def put (k : Str) (L : List Str) : List Str := if k ∈ L then L else k :: L
theorem put_nd {k : Str} {L : List Str} (h : L.Nodup) : (put k L).Nodup := by
  unfold put
  split
  · exact h
  · rename_i n
    exact List.nodup_cons.mpr ⟨n, h⟩
theorem put_mem {k x : Str} {L : List Str} : x ∈ put k L ↔ x = k ∨ x ∈ L := by
  unfold put
  split
  · rename_i m
    exact ⟨.inr, fun q => q.elim (fun e => e ▸ m) id⟩
  · exact List.mem_cons
theorem put_len (k : Str) (L : List Str) : (put k L).length ≤ L.length + 1 := by
  unfold put
  split <;> simp
section
variable {P : Program} {w : World} {h h' : Heap} {a : Addr} {L : List Str} {o : Obj} {es : Array Row} {ep : Nat} {t : SetTable}
theorem Is.keep (R : Is w h a L) (k : ∀ o, h.get? a = some o → h'.get? a = some o) : Is w h' a L := by
  obtain ⟨o, es, ep, t, r⟩ := R
  exact ⟨o, es, ep, t, k o r.ob, r.ex, r.da, r.good, r.keys, r.nd, r.few, r.fits, r.ris, r.led⟩
theorem At.els (R : At w h a L o es ep t) : ElemsOf (PySem.strKind P w) es.toList := fun e he => by
  obtain ⟨x, u, q1, q2⟩ := R.good e he
  rw [q1]
  exact ⟨⟨x, strKind_is P w x u, q2⟩, rfl⟩
theorem At.size (R : At w h a L o es ep t) : es.size = L.length := by
  rw [← R.keys.length_eq, List.length_map, Array.length_toList]
theorem fit_is {e : Row} (g : Fit w e) (k : Str) : (PySem.strKind P w).is k e.2 = true ↔ txt e = k := by
  obtain ⟨x, u, q, _⟩ := g
  unfold txt
  rw [q]
  constructor
  · intro z
    exact (PySem.strKind P w).inj (.str x u) x k (strKind_is P w x u) z
  · intro z
    rw [← z]
    exact strKind_is P w x u
end
section
variable {P : Program} {w : World} {A : Around} {E : Value → Shared → Prop} {s : Shared} {a : Addr} {L : List Str}
/-- what is left to do when a row was laid -/
theorem laid_row {ask : Bool → Sem Unit} (na : ∀ (b : Bool) (s1 : Shared) (Q1 : Unit → Shared → Prop), Q1 () s1 → wpAny (model P w) A (ask b) Q1 E s1) {o : Obj} {es es1 : Array Row} {ep : Nat} {t t2 : SetTable} {L' : List Str} {wd : Bool} {R : Option Bool → Shared → Prop}
    (ob : s.heap.get? a = some o) (ex : o.ExactSet) (da : o.data = .set es ep t) (good : ∀ e ∈ es1.toList, Fit w e) (keys : (es1.toList.map txt).Perm L') (nd : L'.Nodup) (few : L'.length < scanBound) (fits : t2.fits es1.size = true) (ris : Ris t2.place.toList)
    (led : w.params.followText "set-order" = true ∨ t2.led = true) (hR : ∀ h', Heap.SameBut a s.heap h' → Is w h' a L' → R (some true) { s with heap := h' }) :
    wpAny (model P w) A (do
        storeSet a es1 t2
        if (!wd && t2.tooFull) = true then do
            ask (relayAll t2 es1 (SetTable.grown es1.size)).2.2
            storeSet a (relayAll t2 es1 (SetTable.grown es1.size)).1 (relayAll t2 es1 (SetTable.grown es1.size)).2.1
            pure (some true)
          else pure (some true)) R E s := by
  have sz : es1.size < scanBound := by rw [← Array.length_toList, ← List.length_map (f := txt), keys.length_eq]; exact few
  refine wpAny_bind (wpAny_storeSet_of ob da ?_ (fits_of_scanBound sz)); have ob1 := store_at (es' := es1) (t' := t2) ob da
  have b1 := Heap.SameBut.update s.heap a (Obj.putSet es1 t2)
  by_cases c : (!wd && t2.tooFull) = true
  · rw [if_pos c]
    have p := relayAll_perm t2 es1 (SetTable.grown es1.size); have f3 := relayAll_fits t2 es1 (SetTable.grown es1.size)
    have r3 := relayAll_ris t2 es1 (SetTable.grown es1.size); have l3 := relayAll_led t2 es1 (SetTable.grown es1.size)
    generalize relayAll t2 es1 (SetTable.grown es1.size) = Y at p f3 r3 l3 ⊢
    obtain ⟨es2, t3, gv⟩ := Y; dsimp only at p f3 r3 l3 ⊢
    have sz2 : es2.size < scanBound := by rw [← Array.length_toList, p.length_eq, Array.length_toList]; exact sz
    refine wpAny_bind (na _ _ _ (wpAny_bind (wpAny_storeSet_of ob1 rfl ?_ (fits_of_scanBound sz2))))
    have ob2 := store_at (es' := es2) (t' := t3) ob1 rfl
    exact wpAny_pure (hR _ (b1.trans (Heap.SameBut.update _ a _)) ⟨_, es2, _, t3, ob2, ex, rfl, fun e he => good e (p.mem_iff.mp he), (p.map txt).trans keys, nd, few, f3, r3, led.imp id fun z => l3.trans z⟩)
  · rw [if_neg c]
    exact wpAny_pure (hR _ b1 ⟨_, es1, _, t2, ob1, ex, rfl, good, keys, nd, few, fits, ris, led⟩)
/-- one more text -/
theorem add {k : Str} {u : Tok} {Q : Bool → Shared → Prop} (R : Is w s.heap a L) (room : L.length + 1 < scanBound) (hQ : ∀ b h', Heap.SameBut a s.heap h' → Is w h' a (put k L) → Q b { s with heap := h' }) :
    wpAny (model P w) A (setAddHashed a (.str k u) ((PySem.strKind P w).hash k)) Q E s := by
  obtain ⟨o, es, ep, t, r⟩ := R
  have hk : (PySem.strKind P w).is k (.str k u) = true := strKind_is P w k u
  have sc : (Value.str k u).scannable = true := rfl
  have el : ElemsOf (PySem.strKind P w) es.toList := r.els
  have hb : es.size < scanBound := by rw [r.size]; exact r.few
  unfold setAddHashed; unfold setAddHashedIn
  refine wpAny_holding (wpAny_bind (wpAny_setState_of r.ob r.da r.fits ?_)); dsimp only
  rw [byScan_of sc hb el, if_pos rfl]
  unfold setAddByScan
  refine wpAny_bind (wpAny_bind (wpAny_rule (wpAny_bind (wpAny_setScan_of hk r.ob r.da r.fits el ?_))))
  cases q : List.findIdx? (fun e => (PySem.strKind P w).is k e.2) es.toList with
  | some j =>
    obtain ⟨hj, pj, _⟩ := List.findIdx?_eq_some_iff_getElem.mp q
    have m : k ∈ L := r.keys.mem_iff.mp (List.mem_map.mpr ⟨_, List.getElem_mem hj, (fit_is (P := P) (r.good _ (List.getElem_mem hj)) k).1 pj⟩)
    have ep' : put k L = L := if_pos m
    dsimp only
    exact wpAny_pure (wpAny_pure (hQ _ s.heap (Heap.SameBut.refl a s.heap) (by rw [ep']; exact ⟨o, es, ep, t, r⟩)))
  | none =>
    have m : k ∉ L := fun z => by
      obtain ⟨e, he, q2⟩ := List.mem_map.mp (r.keys.mem_iff.mpr z)
      have c := List.findIdx?_eq_none_iff.mp q e he
      rw [(fit_is (P := P) (r.good e he) k).2 q2] at c; cases c
    have ep' : put k L = k :: L := if_neg m
    dsimp only
    have gw : ∀ (b : Bool) {s1 : Shared} {Q1 : Unit → Shared → Prop}, Q1 () s1 → wpAny (model P w) A (match b with | true => rule "set.scan.the-table-gave-way" | false => pure ()) Q1 E s1 := fun b s1 Q1 z => by
      cases b <;> first | exact wpAny_pure z | exact wpAny_rule z
    have p := layNew_perm t es ((PySem.strKind P w).hash k) (.str k u); have f1 := layNew_fits t es ((PySem.strKind P w).hash k) (.str k u)
    have r1 := layNew_ris t es ((PySem.strKind P w).hash k) (.str k u) r.ris; have l1 := layNew_led t es ((PySem.strKind P w).hash k) (.str k u)
    generalize layNew t es ((PySem.strKind P w).hash k) (.str k u) = Y at p f1 r1 l1 ⊢
    obtain ⟨es1, t1, wd, gv⟩ := Y; dsimp only at p f1 r1 l1 ⊢
    have pc : es1.toList.Perm (((PySem.strKind P w).hash k, Value.str k u) :: es.toList) := by
      rw [Array.toList_push] at p
      exact p.trans (List.perm_append_singleton _ _)
    have pk : (es1.toList.map txt).Perm (put k L) := by
      rw [ep']
      exact (pc.map txt).trans (List.Perm.cons k r.keys)
    have g1 : ∀ e ∈ es1.toList, Fit w e := fun e he => by
      rcases List.mem_cons.mp (pc.mem_iff.mp he) with z | z
      · exact z ▸ ⟨k, u, rfl, rfl⟩
      · exact r.good e z
    have few : (put k L).length < scanBound := Nat.lt_of_le_of_lt (put_len k L) room
    have led : w.params.followText "set-order" = true ∨ t1.led = true := r.led.imp id fun z => l1.trans z
    refine wpAny_bind (gw _ ?_)
    split
    · refine wpAny_bind ?_
      rw [hashByValue_scannable 8 sc]
      refine wpAny_pure (laid_row (fun b s1 Q1 z => by cases b <;> first | exact wpAny_pure z | exact wpAny_rule z) r.ob r.ex r.da g1 pk (put_nd r.nd) few ?_ ?_ ?_ fun h' sb i => ?_)
      · first | (split <;> first | exact f1 | exact SetTable.fits_plain_off f1) | exact f1
      · first | (split <;> exact r1) | exact r1
      · first | (split <;> exact led) | exact led
      · dsimp only; exact wpAny_pure (hQ _ h' sb i)
    · refine wpAny_bind (wpAny_pure ?_)
      simp only [↓reduceIte]
      refine laid_row (fun b s1 Q1 z => by cases b <;> first | exact wpAny_pure z | exact wpAny_rule z) r.ob r.ex r.da g1 pk (put_nd r.nd) few f1 r1 led fun h' sb i => ?_
      dsimp only; exact wpAny_pure (hQ _ h' sb i)
end
end SetS
set_option Elab.async false
set_option linter.all false
set_option maxRecDepth 100000
set_option maxHeartbeats 4000000
namespace SetS
open PySem PySem.Spec PyProof.Rows L2
/-- what stands in the set behind the first i texts -/
def upto (xs : List Str) (i : Nat) : List Str := (xs.take i).foldl (fun l k => put k l) []
theorem upto_next {xs : List Str} {i : Nat} {x : Str} (h : xs[i]? = some x) : upto xs (i + 1) = put x (upto xs i) := by
  unfold upto
  rw [List.take_succ, h, List.foldl_append]
  rfl
theorem upto_len (xs : List Str) : ∀ i, (upto xs i).length ≤ i
  | 0 => by simp [upto]
  | i + 1 => by
    cases h : xs[i]? with
    | none =>
      have e : upto xs (i + 1) = upto xs i := by
        unfold upto
        rw [List.take_succ, h]
        simp
      rw [e]
      exact Nat.le_succ_of_le (upto_len xs i)
    | some x =>
      rw [upto_next h]
      exact Nat.le_trans (put_len _ _) (Nat.succ_le_succ (upto_len xs i))
theorem fold_mem : ∀ (xs l : List Str) (x : Str), x ∈ xs.foldl (fun l k => put k l) l ↔ x ∈ xs ∨ x ∈ l
  | [], l, x => by simp
  | y :: r, l, x => by
    rw [List.foldl_cons, fold_mem r, put_mem, List.mem_cons]
    constructor
    · rintro (h | h | h)
      · exact .inl (.inr h)
      · exact .inl (.inl h)
      · exact .inr h
    · rintro ((h | h) | h)
      · exact .inr (.inl h)
      · exact .inl h
      · exact .inr (.inr h)
theorem upto_all (xs : List Str) (x : Str) : x ∈ upto xs xs.length ↔ x ∈ xs := by
  unfold upto
  rw [List.take_length, fold_mem]
  simp
section
variable {P : Program} {w : World} {A : Around} {E : Value → Shared → Prop} {s : Shared}
/-- the loop of set.update over texts -/
theorem upd_loop {I S : Addr} {fp wr : List Addr} {G : Array GenState → Array GenState → Prop} {n : Nat} {Pv : Nat → Value → Prop} {St : Nat → Shared → Prop} {R : Result → Shared → Prop} (W : WalksS P w A.in1 I fp wr G n Pv St) (nS : S ∉ fp) (xs : List Str)
    (hn : n = xs.length) (few : xs.length + 1 < scanBound) (hv : ∀ i v, Pv i v → ∃ x t, xs[i]? = some x ∧ v = .str x t) :
    ∀ (k i : Nat) (s : Shared), n - i = k → i ≤ n → St i s → Is w s.heap S (upto xs i) → (∀ s', Moved (S :: wr) G s s' → Is w s'.heap S (upto xs n) → R (.ok (.ret .none)) s') → codeAny (model P w) A (.builtin "set.update.loop" ⟨[.ref S, .ref I], []⟩) R s := by
  have nw : S ∉ wr := fun z => nS (W.sub _ z)
  have more : ∀ b ∈ wr, b ∈ S :: wr := fun b z => List.mem_cons_of_mem _ z
  intro k
  induction k with
  | zero =>
    intro i s e1 e2 st i0 fin
    obtain rfl : i = n := by omega
    refine codeAny_builtin F.entry_set_update_loop ?_; rw [Around.under_plainId F.plain_set_update_loop _]
    refine wpAny_bind (W.done s _ _ st fun s' mv => ?_)
    exact wpAny_pure (fin s' (mv.mono more) (i0.keep fun o q => mv.heap S o nw q))
  | succ k ih =>
    intro i s e1 e2 st i0 fin
    have lt : i < n := by omega
    refine codeAny_builtin F.entry_set_update_loop ?_; rw [Around.under_plainId F.plain_set_update_loop _]
    refine wpAny_bind (W.item i s _ _ lt st fun v s' pv st' mv => ?_)
    obtain ⟨x, t, hx, rfl⟩ := hv i v pv
    have i1 := i0.keep (h' := s'.heap) fun o q => mv.heap S o nw q
    show wpAny _ A.in1 (holding [Value.str x t] (setAdd S (.str x t)) >>= _) _ _ s'
    refine wpAny_bind (wpAny_holding ?_); unfold setAdd
    refine wpAny_holding (wpAny_bind ((PySem.strKind P w).pyHash (strKind_is P w x t) ?_))
    have room : (upto xs i).length + 1 < scanBound := by have := upto_len xs i; omega
    refine add (s := { s' with toks := s'.toks + 1 }) i1 room fun b h' sb i2 => ?_
    rw [← upto_next hx] at i2
    refine wpAny_pure ⟨plainId_quiet F.plain_set_update_loop _, ih (i + 1) _ (by omega) lt (W.frame _ s' _ _ st' (Nat.le_succ _) fun b hb o q => (sb.2 b fun z => nS (z ▸ hb)).trans q) i2 fun s'' mv' i3 => ?_⟩
    exact fin s'' (Moved.trans W.gtrans ((mv.mono more).then_heap (Nat.le_succ _) fun b o hb q => (sb.2 b fun z => hb (z ▸ List.mem_cons_self)).trans q) mv') i3
abbrev nova (w : World) : Obj := { cls := .type "set", dict := none, data := .set #[] 0 (.fresh 0 0 (!w.params.followText "set-order")) }
theorem nova_is {h : Heap} {a : Addr} (g : h.get? a = some (nova w)) : Is w h a [] :=
  ⟨_, #[], 0, _, g, ⟨rfl, rfl, rfl⟩, rfl, fun e he => by simp at he, by simp, List.nodup_nil, by decide, by rfl, List.Pairwise.nil, by
    show _ ∨ (!w.params.followText "set-order") = true
    cases w.params.followText "set-order" <;> simp⟩
theorem strs_at : ∀ {vs : List Value} {xs : List Str}, StrsAre vs xs → ∀ (i : Nat) (v : Value), vs[i]? = some v → ∃ x t, xs[i]? = some x ∧ v = .str x t
  | _, _, .nil, i, v, h => by simp at h
  | _, _, .cons x t r, 0, v, h => ⟨x, t, rfl, (Option.some.inj h).symm⟩
  | _, _, .cons x t r, i + 1, v, h => strs_at r i v h
theorem strs_len : ∀ {vs : List Value} {xs : List Str}, StrsAre vs xs → vs.length = xs.length
  | _, _, .nil => rfl
  | _, _, .cons x t r => congrArg (· + 1) (strs_len r)
set_option maxHeartbeats 8000000 in
/-- set(xs), xs a list of texts -/
theorem call_set {l : Addr} {items : Array Value} {xs : List Str} {Q : Value → Shared → Prop} (hh : A.handled = none) (hl : s.heap.IsList l items) (hx : StrsAre items.toList xs) (few : xs.length + 1 < scanBound)
    (hq : ∀ (h' : Heap) (tk : Nat), Is w h' s.heap.objs.size (upto xs xs.length) → (∀ b o, s.heap.get? b = some o → h'.get? b = some o) → Q (.ref s.heap.objs.size) { s with heap := h', toks := tk }) : wpAny (model P w) A (call (.type "set") [.ref l]) Q E s := by
  have sz : items.size = xs.length := by rw [← Array.length_toList]; exact strs_len hx
  obtain ⟨cc, ctl, c1⟩ := F.called_set.mro; have c2 := F.called_set.made; have c3 := F.called_set.sub
  refine wpAny_call (codeAny_of_tree ?_); show wpAny _ _ (callAny (.type "set") _) _ _ _
  refine wpAny_pure ⟨Code.quiet_builtin _ (by decide +kernel), codeAny_builtin F.entry_type_call ?_⟩; rw [Around.under_plain (weight_type_call_type "set" [.ref l] []) rfl]
  have c4 := F.called_set.notType; have c5 := F.called_set.canCreate; have c6 := F.typeCall_set_1 (.ref l)
  repeat (any_goals (first | assumption | wp_step))
  refine codeAny_mono (code_set_led1 (.ref l) (E := E) (Q₁ := fun u s1 => u = .ref s.heap.objs.size ∧ s1 = { s with heap := s.heap.push (nova w) }) ⟨rfl, rfl⟩) fun r s1 hr => ?_
  match r, hr with
  | .error e, hr => exact hr
  | .ok .next, hr => exact hr.elim
  | .ok .brk, hr => exact hr.elim
  | .ok .cont, hr => exact hr.elim
  | .ok (.ret u), hr =>
    obtain ⟨rfl, rfl⟩ := hr
    have g0 : (s.heap.push (nova w)).get? s.heap.objs.size = some (nova w) := Heap.get?_push_size _ rfl
    have ty : Shared.TypeIs { s with heap := s.heap.push (nova w) } (.ref s.heap.objs.size) "set" := ⟨_, g0, rfl⟩
    have c7 := F.called_set.init.lookup; have c8 := F.called_set.init.bind (.ref s.heap.objs.size)
    repeat (any_goals (first | assumption | wp_step))
    refine codeAny_mono (codeAny_call_builtin (R := wants (fun r s2 => r = .none ∧ ∃ h' tk, s2 = { s with heap := h', toks := tk } ∧ Is w h' s.heap.objs.size (upto xs xs.length) ∧ ∀ b o, s.heap.get? b = some o → h'.get? b = some o) E) F.called_set.init.plain F.entry_set_init (check_set_init_1 ty ?_)) fun r2 s2 hr2 => ?_
    · obtain ⟨ol, hol, hcl, nl, hdl⟩ := hl
      obtain ⟨ocls, odict, odata, oslots⟩ := ol
      dsimp only at hcl hdl; subst hcl hdl
      have hol1 : (s.heap.push (nova w)).get? l = some { cls := .type "list", dict := odict, data := .seq items nl, slots := oslots } := Heap.get?_push_of_some _ hol
      have d1 := F.sub_list_set; have d2 := F.sub_list_frozenset
      have d3 : (Value.type "list" == Value.type "dict") = false := by decide
      have il : (s.heap.push (nova w)).IsList l items := ⟨_, hol1, rfl, nl, rfl⟩
      unfold Builtin.«set.__init__»; unfold noKeywords Builtin.Frozenset.updateFrom
      generalize hPI : pyIter = PI
      wp_walk
      subst hPI
      refine wpAny_pyIter_list il (wpAny_bind (wpAny_runValue ?_))
      have lS : l < s.heap.objs.size := Heap.lt_size hol
      have h3 : A.in1.in1.in1.handled = none := by simp [hh]
      have z1 : (s.heap.push (nova w)).objs.size = s.heap.objs.size + 1 := Heap.size_push ..
      have n1 : l ≠ (s.heap.push (nova w)).objs.size := by rw [z1]; exact Nat.ne_of_lt (Nat.lt_succ_of_lt lS)
      have n2 : s.heap.objs.size ∉ [(s.heap.push (nova w)).objs.size, l] := by
        rw [z1]
        intro m
        rcases List.mem_cons.mp m with m | m
        · exact absurd m (Nat.ne_of_lt (Nat.lt_succ_self _))
        · exact absurd (List.mem_singleton.mp m) (Nat.ne_of_gt lS)
      have at_ : ∀ (i : Nat) (v : Value), items[i]? = some v → ∃ x t, xs[i]? = some x ∧ v = .str x t := fun i v e => strs_at hx i v (by rw [Array.getElem?_toList]; exact e)
      refine upd_loop ((Walks.list h3 _ l n1 items).toS) n2 xs sz few at_ (items.size - 0) 0 _ (by omega) (Nat.zero_le _) ⟨⟨_, Heap.get?_push_size _ rfl, rfl, rfl⟩, (il.push _)⟩ (nova_is (Heap.get?_push_of_some _ g0)) fun s' mv i' => ?_
      obtain ⟨h', g2, d', tk', os'⟩ := s'
      obtain rfl : g2 = s.gens := mv.gens
      obtain rfl : d' = s.drawn := mv.drawn
      obtain rfl : os' = s.os := mv.os
      show wpAny _ _ _ _ _ _
      refine wpAny_pure ?_
      rw [sz] at i'
      show wpAny _ _ (ret Value.none) _ _ _
      refine wpAny_pure ⟨rfl, h', tk', rfl, i', fun b o e => ?_⟩
      have b0 : b < s.heap.objs.size := Heap.lt_size e
      refine mv.heap b o (fun m => ?_) (Heap.get?_push_of_some _ (Heap.get?_push_of_some _ e))
      rcases List.mem_cons.mp m with m | m
      · exact absurd m (Nat.ne_of_lt b0)
      · have m1 := List.mem_singleton.mp m
        rw [z1] at m1
        exact absurd m1 (Nat.ne_of_lt (Nat.lt_succ_of_lt b0))
    · match r2, hr2 with
      | .error e, hr2 => exact hr2
      | .ok .next, hr2 => exact hr2.elim
      | .ok .brk, hr2 => exact hr2.elim
      | .ok .cont, hr2 => exact hr2.elim
      | .ok (.ret u), hr2 =>
        obtain ⟨rfl, h', tk, rfl, i', k'⟩ := hr2
        repeat (any_goals (first | assumption | wp_step))
        exact hq _ _ i' k'
end
end SetS
set_option Elab.async false
set_option linter.all false
set_option maxRecDepth 100000
set_option maxHeartbeats 4000000
namespace SetS
open PySem PySem.Spec PyProof.Rows L2
/-! ### sorted(set): texts, any number of them -/
def tv (v : Value) : Str := match v with | .str x _ => x | _ => Str.empty
def lts (x y : Str) : Bool := decide (x.cps.toList < y.cps.toList)
def ltv (v u : Value) : Bool := lts (tv v) (tv u)
theorem swo : SrtO.Swo ltv := by
  refine ⟨fun x y h => ?_, fun x y z h1 h2 => ?_⟩
  · have a := of_decide_eq_true (p := (tv x).cps.toList < (tv y).cps.toList) h
    exact decide_eq_false (p := (tv y).cps.toList < (tv x).cps.toList) (List.lt_asymm a)
  · have a := of_decide_eq_false (p := (tv y).cps.toList < (tv x).cps.toList) h1
    have b := of_decide_eq_false (p := (tv z).cps.toList < (tv y).cps.toList) h2
    exact decide_eq_false (p := (tv z).cps.toList < (tv x).cps.toList) (List.not_lt.mpr (List.le_trans (List.not_lt.mp a) (List.not_lt.mp b)))
theorem strs_mem : ∀ {vs : List Value} {xs : List Str}, StrsAre vs xs → ∀ v ∈ vs, ∃ x t, v = Value.str x t
  | _, _, .nil, v, h => absurd h (by simp)
  | _, _, .cons x t r, v, h => by
    rcases List.mem_cons.mp h with e | h
    · exact ⟨x, t, e⟩
    · exact strs_mem r v h
theorem strs_of : ∀ {vs : List Value}, (∀ v ∈ vs, ∃ x t, v = Value.str x t) → StrsAre vs (vs.map tv)
  | [], _ => .nil
  | v :: vs, h => by
    obtain ⟨x, t, e⟩ := h v List.mem_cons_self
    subst e
    exact .cons x t (strs_of fun u hu => h u (List.mem_cons_of_mem _ hu))
theorem tv_of : ∀ {vs : List Value} {xs : List Str}, StrsAre vs xs → vs.map tv = xs
  | _, _, .nil => rfl
  | _, _, .cons x t r => congrArg (x :: ·) (tv_of r)
section
variable {P : Program} {w : World} {A : Around} {E : Value → Shared → Prop} {s : Shared}
theorem str_cmp {vs : List Value} {xs : List Str} (hI : StrsAre vs xs) : SrtO.Cmp P w A s oneType' (fun p => p.1 ∈ vs) (SrtO.lt2 ltv) := by
  intro p q m m'
  obtain ⟨a, t, e⟩ := strs_mem hI _ m
  obtain ⟨b, u, e'⟩ := strs_mem hI _ m'
  show wpAny (model P w) A (keyLt' oneType' p.1 q.1) (fun r s' => s' = s ∧ r = ltv p.1 q.1) (fun _ _ => False) s
  rw [e, e', keyLt'_oneType]
  exact oneLt_str ⟨rfl, rfl⟩
theorem sortable {a : Addr} {vs : List Value} {xs : List Str} (hI : StrsAre vs xs) (h2 : 2 ≤ vs.length) : SrtO.SortableO P w A s a vs ltv := by
  intro h' _
  refine ⟨oneType', fun Q E hq => ?_, str_cmp hI⟩
  match vs, hI, h2 with
  | v1 :: v2 :: rest, hI, _ =>
    rw [keyKind_strs hI]
    exact wpAny_pure hq
  | [], _, h => exact absurd h (by decide)
  | [v], _, h => exact absurd h (by simp)
def Rises (l : List Str) : Prop := l.Pairwise fun x y => lts y x = false
theorem rises_of {out : List Value} (h : SrtO.Srtd ltv out) : Rises (out.map tv) := List.pairwise_map.mpr h
/-- sorted(a set of texts) -/
theorem sorted {a : Addr} {L : List Str} {Q : Value → Shared → Prop} (R : Is w s.heap a L) (hh : A.handled = none) (few : L.length ≤ sizeLine)
    (hq : ∀ s' p (out : Array Value) (c : Nat) (xs : List Str), (∀ b o, s.heap.get? b = some o → s'.heap.get? b = some o) → s'.gens = s.gens → s'.os = s.os → s.heap.objs.size ≤ p → s'.heap.get? p = some (seqObj "list" out c) → StrsAre out.toList xs → xs.Perm L → Rises xs → Q (.ref p) s') :
    wpAny (model P w) A (call (.builtin "sorted") [.ref a]) Q E s := by
  obtain ⟨o, es, ep, t, r⟩ := R
  refine Calls.call_function_entry kind_sorted plain_sorted entry_sorted (args_sorted1 _) ?_; unfold Builtin.«sorted»
  refine wpAny_bind (m := checkCount "sorted" 1 1 _) (wpAny_pure (wpAny_bind (collect_set (A := A.in1) hh ⟨o, r.ob, r.ex.1, r.da⟩ r.fits (by rw [r.size]; exact r.few) r.ris r.led fun s1 vs k1 hz g1 o1 pm => ?_)))
  have hvs : ∀ v ∈ vs, ∃ x t, v = Value.str x t := fun v hv => by
    obtain ⟨e, he, q⟩ := List.mem_map.mp (pm.mem_iff.mp hv)
    obtain ⟨x, u, q1, _⟩ := r.good e he
    exact ⟨x, u, q.symm.trans q1⟩
  have hI := strs_of hvs
  have pk : (vs.map tv).Perm L := by
    have q := pm.map tv
    rw [List.map_map] at q
    exact q.trans r.keys
  have hl : vs.length ≤ sizeLine := by rw [← List.length_map (f := tv), pk.length_eq]; exact few
  refine wpAny_bind (wpAny_newList ?_ hl)
  have hoL : (s1.heap.push (seqObj "list" vs.toArray 0)).get? s1.heap.objs.size = some (seqObj "list" vs.toArray 0) := Heap.get?_push_size _ rfl
  refine wpAny_bind (wpAny_holding (wpAny_call_entry slot_list_sort ⟨_, hoL, rfl⟩ entry_list_sort (SrtO.list_sort_ord swo hoL hl (fun h2 => sortable hI h2) fun out h1 h2 => ⟨.none, rfl, ?_⟩) (args_list_sort _)))
  obtain ⟨c, hc⟩ := sortedHeap_at (vs := vs) (out := out.toArray) hoL
  have h3 : ∀ v ∈ out, ∃ x t, v = Value.str x t := fun v hv => hvs v (h2.perm.mem_iff.mp hv)
  refine wpAny_pure ⟨_, rfl, hq _ s1.heap.objs.size out.toArray c (out.map tv) (fun b u e => ?_) g1 o1 hz hc (strs_of h3) ((h2.perm.map tv).trans pk) (rises_of h1)⟩
  have q := k1 b u e
  have lt := Heap.lt_size q
  show (sortedHeap (s1.heap.push (seqObj "list" vs.toArray 0)) s1.heap.objs.size vs out.toArray).get? b = some u
  rw [sortedHeap_old (Nat.ne_of_lt lt) (by rw [size_push']; exact Nat.lt_succ_of_lt lt)]
  exact Heap.get?_push_of_some _ q
end
/-- risen lists with the same members, each once, are one -/
theorem lts_total {x y : Str} (h1 : lts x y = false) (h2 : lts y x = false) : x = y := by
  have a := List.not_lt.mp (of_decide_eq_false (p := x.cps.toList < y.cps.toList) h1)
  have b := List.not_lt.mp (of_decide_eq_false (p := y.cps.toList < x.cps.toList) h2)
  have e := List.le_antisymm b a
  cases x
  cases y
  simp only [Str.mk.injEq]
  exact Array.toList_inj.mp e
theorem rises_one : ∀ {l m : List Str}, Rises l → Rises m → l.Perm m → l = m
  | [], m, _, _, p => p.nil_eq
  | x :: l, m, h1, h2, p => by
    cases m with
    | nil => exact p.eq_nil
    | cons y m =>
      obtain ⟨a1, a2⟩ := List.pairwise_cons.mp h1
      obtain ⟨b1, b2⟩ := List.pairwise_cons.mp h2
      have e : x = y := by
        rcases List.mem_cons.mp (p.mem_iff.mp List.mem_cons_self) with e | m1
        · exact e
        · rcases List.mem_cons.mp (p.mem_iff.mpr List.mem_cons_self) with e | m2
          · exact e.symm
          · exact lts_total (b1 x m1 |> fun z => z) (a1 y m2) |> fun z => z
      subst e
      rw [rises_one a2 b2 ((List.perm_cons x).mp p)]
end SetS
namespace L2
open PySem PySem.Spec PyProof.Rows
/-- the set of texts at a -/
def SetSO (w : World) (a : Addr) (L : List Str) : HO := .ext fun h => SetS.Is w h a L
theorem setSO_new {w : World} {P : Program} {H : Hp} {h : Heap} {a : Addr} {L : List Str} (R : SetS.Is w h a L) : ObjOk P w H h a (SetSO w a L) := by
  have ⟨o, _, _, _, r⟩ := R
  exact ⟨R, ⟨o, r.ob⟩, fun h1 h2 p k => SetS.Is.keep p k⟩
theorem vals_ofS : ∀ {us : List Value} {xs : List Str}, StrsAre us xs → Vals (xs.map V.str) us
  | _, _, .nil => .nil
  | _, _, .cons x t r => .cons ⟨t, rfl⟩ (vals_ofS r)
theorem strsOf_vals : ∀ {xs : List Str} {us : List Value}, Vals (xs.map V.str) us → StrsAre us xs
  | [], _, .nil => .nil
  | x :: xs, _, .cons r t => by
    obtain ⟨k, rfl⟩ := r
    exact .cons x k (strsOf_vals t)
section
variable {X : Cx}
/-- set(xs), xs a list of texts -/
def rSetS (K : PySem.W.Frag) (w : World) : List V → Hp → VK → Prop := fun vs H Q => ∃ (l : Addr) (xs : List Str), vs = [V.ref l] ∧ SqL K H l (xs.map V.str) ∧ xs.length + 1 < scanBound ∧ ∀ (L : List Str) (a : Addr), H a = none → L.Nodup → (∀ x, x ∈ L ↔ x ∈ xs) → L.length ≤ xs.length → Q (.ref a) (upd H a (SetSO w a L))
theorem cr_setS (hc : X.calm = true) : CallR X (.type "set") (rSetS X.K X.w) := by
  intro pins s σ H vs us Q I r h
  obtain ⟨l, xs, rfl, hl, hf, q⟩ := h
  rw [Vals.ref1 r]
  obtain ⟨its, rv, pl, hz⟩ := I.list hl
  refine SetS.call_set (P := X.prog) (w := X.w) (xs := xs) (I.ok.hd hc) pl.isList (by simpa using strsOf_vals rv) hf fun h' tk R k => ?_
  have nd : (SetS.upto xs xs.length).Nodup := by
    obtain ⟨_, _, _, _, r⟩ := R
    exact r.nd
  exact ⟨.ref s.heap.objs.size, upd H s.heap.objs.size (SetSO X.w s.heap.objs.size (SetS.upto xs xs.length)), I.laid (t' := tk) k (Nat.le_refl _) (setSO_new R), rfl, q _ _ (I.hok.fresh (Nat.le_refl _)) nd (SetS.upto_all xs) (SetS.upto_len xs _)⟩
/-- sorted(a set of texts) -/
def rSortSet (w : World) : List V → Hp → VK → Prop := fun vs H Q => ∃ (a : Addr) (L : List Str), vs = [V.ref a] ∧ H a = some (SetSO w a L) ∧ L.length ≤ sizeLine ∧ ∀ (xs : List Str) (p : Addr), xs.Perm L → SetS.Rises xs → H p = none → Q (.ref p) (upd H p (.lst (xs.map V.str)))
theorem cr_sortSet (hc : X.calm = true) : CallR X (.builtin "sorted") (rSortSet X.w) := by
  intro pins s σ H vs us Q I r h
  obtain ⟨a, L, rfl, ha, hf, q⟩ := h
  have R : SetS.Is X.w s.heap a L := (I.hok a _ ha).1
  rw [Vals.ref1 r]
  refine SetS.sorted (P := X.prog) R (I.ok.hd hc) hf fun s' p out c xs k g o hp hg hS pm up => ?_
  have hlen : (xs.map V.str).length ≤ sizeLine := by rw [List.length_map, pm.length_eq]; exact hf
  have hn : H p = none := I.hok.fresh hp
  have J : Inv X pins σ (upd H p (.lst (xs.map V.str))) { s with heap := s'.heap, gens := s'.gens, drawn := s'.drawn, toks := s'.toks } :=
    I.call (ch := []) (Un.laid k hp hn) (I.hok.laid k hp ⟨hlen, out.toList, c, vals_ofS hS, hg⟩) (by rw [g]; exact I.bare) fun _ z => nomatch z
  have e : s' = { s with heap := s'.heap, gens := s'.gens, drawn := s'.drawn, toks := s'.toks } := by
    cases s'; cases s; cases o; rfl
  rw [e]
  exact ⟨.ref p, _, J, rfl, q xs p pm up hn⟩
end
end L2
set_option Elab.async false
set_option linter.all false
set_option maxRecDepth 100000
set_option maxHeartbeats 2000000
namespace K1
open PySem PySem.Spec PyProof.Rows L2
open PySem.W (EachIs)
abbrev sLaid : Stmt := topS 37
abbrev sPoints : Stmt := topS 38
abbrev sDeepF : Stmt := topS 39
abbrev sGapsOf : Stmt := topS 40
abbrev sGaps : Stmt := topS 41
abbrev sPartRows : Stmt := topS 42
abbrev sPartsOf : Stmt := topS 43
def partsG : G → List G
  | .t (_ :: ps) => ps
  | _ => []
theorem gflat_len (ps : List G) (h : ∀ p ∈ ps, (gapsOf p).length ≤ sz p) : (ps.map gapsOf).flatten.length ≤ (ps.map sz).sum := by
  induction ps with
  | nil => simp
  | cons p r ih =>
    rw [List.map_cons, List.flatten_cons, List.length_append, List.map_cons, List.sum_cons]
    have h1 := h p List.mem_cons_self
    have h2 := ih fun q hq => h q (List.mem_cons_of_mem _ hq)
    omega
theorem gaps_len (n : Nat) : ∀ g, dp g ≤ n → (gapsOf g).length ≤ sz g := by
  induction n with
  | zero =>
    intro g h
    have := dp_pos g
    omega
  | succ n ih =>
    intro g hd
    cases g with
    | s x => rw [gapsOf_s]; simp [sz]
    | l ps => simp [gapsOf]
    | o d => simp [gapsOf]
    | t ps =>
      cases ps with
      | nil => simp [gapsOf]
      | cons h ps =>
        rw [gapsOf_t, sz_t, List.map_cons, List.sum_cons]
        have := gflat_len ps fun p hp => ih p (dp_mem hd (List.mem_cons_of_mem _ hp))
        omega
/-- what a def asks of a draft -/
def spAsk (K : PySem.W.Frag) (C CT : Addr) (A : Hp → G → V → Hp → Prop) : Sp := fun vs H Q E => ∃ (p : Addr) (L : List Ln) (v : V) (g : G), vs = [.ref p, v] ∧ SgL K C H p L ∧ LOk L ∧ In K H v g ∧ fine g = true ∧ sz g ≤ 2000 ∧
  ∀ H', Same H H' → (lay0 L g = true → ∀ v', A H (laid L g) v' H' → Q v' H') ∧ (lay0 L g = false → E (.ref CT) none H')
def aLaid (K : PySem.W.Frag) : Hp → G → V → Hp → Prop := fun _ g v H => In K H v g
def aPts : Hp → G → V → Hp → Prop := fun _ g v _ => v = .int (points g)
def aDeep : Hp → G → V → Hp → Prop := fun _ g v _ => v = .int (deep g)
def aGaps : Hp → G → V → Hp → Prop := fun H g v H' => ∃ (a : Addr) (xs : List Str), v = .ref a ∧ H a = none ∧ H' a = some (.lst (xs.map V.str)) ∧ xs.Nodup ∧ SetS.Rises xs ∧ ∀ x, x ∈ xs ↔ x ∈ gapsOf g
def aParts (K : PySem.W.Frag) : Hp → G → V → Hp → Prop := fun H g v H' => ∃ (a : Addr) (xs : List V), v = .ref a ∧ H a = none ∧ H' a = some (.lst xs) ∧ InL K H' xs (partsG g)
def spGapsOf (K : PySem.W.Frag) (n : Nat) : Sp := fun vs H Q _ => ∃ (v : V) (g : G), vs = [v] ∧ In K H v g ∧ shp g = true ∧ dp g ≤ n ∧ sz g ≤ 2000 ∧ ∀ a H', Same H H' → H a = none → H' a = some (.lst ((gapsOf g).map V.str)) → Q (.ref a) H'
def spPartsOf (K : PySem.W.Frag) : Sp := fun vs H Q _ => ∃ (v : V) (g : G), vs = [v] ∧ In K H v g ∧ shp g = true ∧ sz g ≤ 2000 ∧ ∀ a H' xs, Same H H' → SqT K H' a xs → InL K H' xs (partsG g) → Q (.ref a) H'
section
variable {P : Program} {w : World} {K : PySem.W.Frag} {mg : Str → Option Value} {base : Heap}
theorem scLaid : FnScope ["signs", "draft", "term"] ["signs", "draft"] (defScope sLaid) := ⟨rfl, rfl, rfl, by decide +kernel, rfl, by decide +kernel, by decide +kernel⟩
theorem ok_laid {f C CT : Addr} {fd : FuncData} {m : Nat} (F : Fun K "laid" "laid" sLaid f fd) (DL : Df P w K mg base C8.CX0 "laid_or_none" m ["signs", "thing"] (spOrNone K C)) (N : XC K mg "NoTerm" CT) : FnOk P w K mg base (L2.CX P w) (m + 1) f fd ["signs", "draft"] (spAsk K C CT (aLaid K)) := by
  refine F.okX scLaid (fun vs H Q E h => ?_) (fun cdv A outer s H vs Q E hr h => ?_)
  · obtain ⟨p, L, v, g, rfl, _⟩ := h
    rfl
  · obtain ⟨p, L, v, g, rfl, S, ok, hin, hf, hz, k⟩ := h
    refine ⟨_, pss_cons (ps_set (i := 2) scLaid.nd rfl (Or.inl rfl) (pe_df DL hr pass0 (pa_cons (pv 0) (pa_cons (pv 1) pa_nil)) (Nat.le_refl _)))
      (pss_cons (ps_if (pt_cmp (pc_isN (pv 2))) (pss_one (ps_raise rfl (takes_of rfl rfl rfl rfl) (pmk_own PySem.F.excBase_ValueError N.exc N.g N.kp (raises_own N.sub N.ty) rfl))) pss_nil)
      (pss_one (ps_ret (pv 2)))), ?_⟩
    refine ⟨_, rfl, _, rfl, p, L, v, g, rfl, S, ok, hin, hf, hz, fun H1 s1 => ⟨fun e => ?_, fun e v' hv' => ?_⟩⟩
    · exact ⟨_, rfl, true, rfl, iteT ((k H1 s1).2 e)⟩
    · obtain ⟨hL, hs, hd⟩ := lay0_less e hf
      have hn := not_non hv' hL.shp
      exact ⟨_, rfl, false, (by rw [hn]), iteF ⟨_, rfl, (k H1 s1).1 e v' hv'⟩⟩
theorem scPoints : FnScope ["signs", "term"] ["signs", "term"] (defScope sPoints) := ⟨rfl, rfl, rfl, by decide +kernel, rfl, by decide +kernel, by decide +kernel⟩
theorem ok_points {f fl C CT : Addr} {fd fdl : FuncData} {m j n : Nat} (F : Fun K "points" "points" sPoints f fd) (FL : FnOk P w K mg base (L2.CX P w) j fl fdl ["signs", "draft"] (spAsk K C CT (aLaid K))) (gL : mg "laid" = some (.ref fl)) (kL : PySem.W.keepIn K (.ref fl) = true) (bL : Binds K fdl ["signs", "draft"] [])
    (DP : Df P w K mg base C8.CX0 "points_of" m ["term"] (sp1 K n fun g => .int (points g))) (hj : j ≤ m) (hn : 13 ≤ n) : FnOk P w K mg base (L2.CX P w) (m + 1) f fd ["signs", "term"] (spAsk K C CT aPts) := by
  refine F.okX scPoints (fun vs H Q E h => ?_) (fun cdv A outer s H vs Q E hr h => ?_)
  · obtain ⟨p, L, v, g, rfl, _⟩ := h
    rfl
  · obtain ⟨p, L, v, g, rfl, S, ok, hin, hf, hz, k⟩ := h
    refine ⟨_, pss_one (ps_ret (pe_df DP hr pass0 (pa_cons (pe_call FL (hr.mono hj) (by rfl) gL kL bL .nil (passes_call (takes_of rfl rfl rfl rfl) fun _ _ _ _ h => h) (pa_cons (pv 0) (pa_cons (pv 1) pa_nil))) pa_nil) (Nat.le_refl _))), ?_⟩
    refine ⟨_, rfl, _, rfl, p, L, v, g, rfl, S, ok, hin, hf, hz, fun H1 s1 => ⟨fun e v' hv' => ?_, fun e => (k H1 s1).2 e⟩⟩
    obtain ⟨hL, hs, hd⟩ := lay0_less e hf
    exact ⟨v', laid L g, rfl, hv', hL.shp, hL.fine, by have := hL.dp; omega, by have := hL.sz; omega, fun H2 s2 => (k H2 (s1.trans s2)).1 e _ rfl⟩
theorem scDeepF : FnScope ["signs", "term"] ["signs", "term"] (defScope sDeepF) := ⟨rfl, rfl, rfl, by decide +kernel, rfl, by decide +kernel, by decide +kernel⟩
theorem ok_deepF {f fl C CT : Addr} {fd fdl : FuncData} {m j n : Nat} (F : Fun K "deep" "deep" sDeepF f fd) (FL : FnOk P w K mg base (L2.CX P w) j fl fdl ["signs", "draft"] (spAsk K C CT (aLaid K))) (gL : mg "laid" = some (.ref fl)) (kL : PySem.W.keepIn K (.ref fl) = true) (bL : Binds K fdl ["signs", "draft"] [])
    (DP : Df P w K mg base C8.CX0 "deep_of" m ["term"] (sp1 K n fun g => .int (deep g))) (hj : j ≤ m) (hn : 13 ≤ n) : FnOk P w K mg base (L2.CX P w) (m + 1) f fd ["signs", "term"] (spAsk K C CT aDeep) := by
  refine F.okX scDeepF (fun vs H Q E h => ?_) (fun cdv A outer s H vs Q E hr h => ?_)
  · obtain ⟨p, L, v, g, rfl, _⟩ := h
    rfl
  · obtain ⟨p, L, v, g, rfl, S, ok, hin, hf, hz, k⟩ := h
    refine ⟨_, pss_one (ps_ret (pe_df DP hr pass0 (pa_cons (pe_call FL (hr.mono hj) (by rfl) gL kL bL .nil (passes_call (takes_of rfl rfl rfl rfl) fun _ _ _ _ h => h) (pa_cons (pv 0) (pa_cons (pv 1) pa_nil))) pa_nil) (Nat.le_refl _))), ?_⟩
    refine ⟨_, rfl, _, rfl, p, L, v, g, rfl, S, ok, hin, hf, hz, fun H1 s1 => ⟨fun e v' hv' => ?_, fun e => (k H1 s1).2 e⟩⟩
    obtain ⟨hL, hs, hd⟩ := lay0_less e hf
    exact ⟨v', laid L g, rfl, hv', hL.shp, hL.fine, by have := hL.dp; omega, by have := hL.sz; omega, fun H2 s2 => (k H2 (s1.trans s2)).1 e _ rfl⟩
theorem scGaps : FnScope ["signs", "term"] ["signs", "term"] (defScope sGaps) := ⟨rfl, rfl, rfl, by decide +kernel, rfl, by decide +kernel, by decide +kernel⟩
theorem ok_gaps {f fl C CT : Addr} {fd fdl : FuncData} {m j n : Nat} (F : Fun K "gaps" "gaps" sGaps f fd) (FL : FnOk P w K mg base (L2.CX P w) j fl fdl ["signs", "draft"] (spAsk K C CT (aLaid K))) (gL : mg "laid" = some (.ref fl)) (kL : PySem.W.keepIn K (.ref fl) = true) (bL : Binds K fdl ["signs", "draft"] [])
    (DG : Df P w K mg base C8.CX0 "gaps_of" m ["term"] (spGapsOf K n)) (T : Ct mg) (gS : mg "set" = none) (hj : j ≤ m) (hn : 13 ≤ n) : FnOk P w K mg base (L2.CX P w) (m + 1) f fd ["signs", "term"] (spAsk K C CT aGaps) := by
  refine F.okX scGaps (fun vs H Q E h => ?_) (fun cdv A outer s H vs Q E hr h => ?_)
  · obtain ⟨p, L, v, g, rfl, _⟩ := h
    rfl
  · obtain ⟨p, L, v, g, rfl, S, ok, hin, hf, hz, k⟩ := h
    refine ⟨_, pss_one (ps_ret (pe_callB (cr_sortSet rfl) (by rfl) T.sorted (by decide +kernel) (pa_cons (pe_callTy (cr_setS rfl) (by rfl) gS PyProof.Rows.boot_set (pa_cons (pe_df DG hr pass0 (pa_cons (pe_call FL (hr.mono hj) (by rfl) gL kL bL .nil (passes_call (takes_of rfl rfl rfl rfl) fun _ _ _ _ h => h) (pa_cons (pv 0) (pa_cons (pv 1) pa_nil))) pa_nil) (Nat.le_refl _)) pa_nil)) pa_nil))), ?_⟩
    refine ⟨_, rfl, _, rfl, p, L, v, g, rfl, S, ok, hin, hf, hz, fun H1 s1 => ⟨fun e v' hv' => ?_, fun e => (k H1 s1).2 e⟩⟩
    obtain ⟨hL, hs, hd⟩ := lay0_less e hf
    have hsz : sz (laid L g) ≤ 2000 := by have := hL.sz; omega
    have gl := gaps_len _ (laid L g) (Nat.le_refl _)
    refine ⟨v', laid L g, rfl, hv', hL.shp, by have := hL.dp; omega, hsz, fun a H2 s2 ha ea => ?_⟩
    refine ⟨a, gapsOf (laid L g), rfl, SqL.of ea, by unfold scanBound; omega, fun M b hb nd mem hl => ?_⟩
    have s3 := Same.new (o := SetSO w b M) s2 hb
    refine ⟨b, M, rfl, upd_same, by rw [sizeLine_eq]; omega, fun xs q pm up hq => ?_⟩
    have s4 := Same.new (o := .lst (xs.map V.str)) s3 hq
    refine (k _ (s1.trans s4)).1 e _ ⟨q, xs, rfl, ?_, upd_same, pm.nodup_iff.mpr nd, up, fun x => pm.mem_iff.trans (mem x)⟩
    exact Same.free (s1.trans s3) hq
theorem scPartRows : FnScope ["signs", "term"] ["signs", "term"] (defScope sPartRows) := ⟨rfl, rfl, rfl, by decide +kernel, rfl, by decide +kernel, by decide +kernel⟩
theorem ok_partRows {f fl C CT : Addr} {fd fdl : FuncData} {j : Nat} (F : Fun K "part_rows" "part_rows" sPartRows f fd) (FL : FnOk P w K mg base (L2.CX P w) j fl fdl ["signs", "draft"] (spAsk K C CT (aLaid K))) (gL : mg "laid" = some (.ref fl)) (kL : PySem.W.keepIn K (.ref fl) = true) (bL : Binds K fdl ["signs", "draft"] [])
    (DP : Df P w K mg base C8.CX0 "parts_of" 1 ["term"] (spPartsOf K)) (T : Ct mg) (hj : 1 ≤ j) : FnOk P w K mg base (L2.CX P w) (j + 1) f fd ["signs", "term"] (spAsk K C CT (aParts K)) := by
  refine F.okX scPartRows (fun vs H Q E h => ?_) (fun cdv A outer s H vs Q E hr h => ?_)
  · obtain ⟨p, L, v, g, rfl, _⟩ := h
    rfl
  · obtain ⟨p, L, v, g, rfl, S, ok, hin, hf, hz, k⟩ := h
    refine ⟨_, pss_one (ps_ret (pe_callTy call_list_of (by rfl) T.list boot_list (pa_cons (pe_df DP (hr.mono hj) pass0 (pa_cons (pe_call FL hr (by rfl) gL kL bL .nil (passes_call (takes_of rfl rfl rfl rfl) fun _ _ _ _ h => h) (pa_cons (pv 0) (pa_cons (pv 1) pa_nil))) pa_nil) (Nat.le_refl _)) pa_nil))), ?_⟩
    refine ⟨_, rfl, _, rfl, p, L, v, g, rfl, S, ok, hin, hf, hz, fun H1 s1 => ⟨fun e v' hv' => ?_, fun e => (k H1 s1).2 e⟩⟩
    obtain ⟨hL, hs, hd⟩ := lay0_less e hf
    refine ⟨v', laid L g, rfl, hv', hL.shp, by have := hL.sz; omega, fun a H2 xs s2 ha hx => ?_⟩
    refine ⟨a, xs, rfl, .inr ha, fun q hq => ?_⟩
    have s3 := Same.new (o := .lst xs) s2 hq
    exact (k _ (s1.trans s3)).1 e _ ⟨q, xs, rfl, Same.free (s1.trans s2) hq, upd_same, hx.same (Same.new (Same.refl H2) hq)⟩
theorem scPartsOf : FnScope ["term"] ["term"] (defScope sPartsOf) := ⟨rfl, rfl, rfl, by decide +kernel, rfl, by decide +kernel, by decide +kernel⟩
theorem ok_partsOf {f : Addr} {fd : FuncData} (F : Fun K "parts_of" "parts_of" sPartsOf f fd) (T : Ct mg) : FnOk P w K mg base C8.CX0 1 f fd ["term"] (spPartsOf K) := by
  refine F.ok scPartsOf (fun vs H Q E h => ?_) (fun cdv A outer s H vs Q E hr h => ?_)
  · obtain ⟨v, g, rfl, _⟩ := h
    rfl
  · obtain ⟨v, g, rfl, hin, hs, hz, k⟩ := h
    refine ⟨_, pss_one (ps_ret (pe_ifExp (pt_val (pe_callB call_isi (by rfl) T.isi boot_isinstance (pa_cons (pv 0) (pa_cons (pe_bltn (v := .ty "str") (by rfl) T.str boot_str rfl) pa_nil)))) (pe_tup pa_nil) (pe_slice sl_tup (pv 0) (po_some pe_int) po_none))), ?_⟩
    obtain ⟨d, t1, t2⟩ := isi_str hin
    refine ⟨_, rfl, _, _, _, _, _, rfl, .ty "str", t1, t2, _, rfl, ?_⟩
    rcases shp_cases hs with ⟨x, rfl⟩ | ⟨y, ps, rfl, hp⟩
    · refine iteT ⟨(by show 0 ≤ sizeLine; decide), fun q hq => ?_⟩
      exact k q _ [] (Same.new (Same.refl H) hq) (SqT.of upd_same) .nil
    · refine iteF ?_
      obtain ⟨a, xs, rfl, hx, hg⟩ := hin.tup
      refine ⟨_, rfl, _, rfl, a, xs, rfl, hx, whole_1 (ne_nil hg), fun q hq => ?_⟩
      have sq := Same.new (o := .tup (cutV xs (some 1) none)) (Same.refl H) hq
      refine k q _ _ sq (SqT.of upd_same) ?_
      have z := (hg.drop 1).same sq
      rw [← cut_1] at z
      exact z
theorem scGapsOf : FnScope ["term", "found", "part"] ["term"] (defScope sGapsOf) := ⟨rfl, rfl, rfl, by decide +kernel, rfl, by decide +kernel, by decide +kernel⟩
theorem flatten_take {ps : List G} {i : Nat} {p : G} (h : ps[i]? = some p) : ((ps.take (i + 1)).map gapsOf).flatten = ((ps.take i).map gapsOf).flatten ++ gapsOf p := by
  rw [take_snoc h, List.map_append, List.flatten_append]
  simp
theorem ok_gapsOf {f : Addr} {fd : FuncData} {n : Nat} (F : Fun K "gaps_of" "gaps_of" sGapsOf f fd) (IH : Df P w K mg base C8.CX0 "gaps_of" n ["term"] (spGapsOf K n)) (T : Ct mg) : FnOk P w K mg base C8.CX0 (n + 1) f fd ["term"] (spGapsOf K (n + 1)) := by
  refine F.ok scGapsOf (fun vs H Q E h => ?_) (fun cdv A outer s H vs Q E hr h => ?_)
  · obtain ⟨v, g, rfl, _⟩ := h
    rfl
  · obtain ⟨v, g, rfl, hin, hs, hd, hz, k⟩ := h
    refine ⟨_, pss_cons (ps_if (pt_val (pe_callB call_isi (by rfl) T.isi boot_isinstance (pa_cons (pv 0) (pa_cons (pe_bltn (v := .ty "str") (by rfl) T.str boot_str rfl) pa_nil)))) (pss_one (ps_ret (pe_lst (pa_cons (pv 0) pa_nil)))) pss_nil)
      (pss_cons (ps_set (i := 1) scGapsOf.nd rfl (Or.inl rfl) (pe_lst pa_nil))
      (pss_cons (ps_for PassesOwn.never rfl (pi_tup (pe_slice sl_tup (pv 0) (po_some pe_int) po_none)) (pg_name (i := 2) scGapsOf.nd rfl (Or.inl rfl))
        (pss_one (ps_expr (pe_bm PySem.F.plainAttrs_list PySem.F.slot_list_extend PySem.F.type_list_extend mt_extend (pv 1) (pa_cons (pe_df IH hr pass0 (pa_cons (pv 2) pa_nil) (Nat.le_refl _)) pa_nil)))))
      (pss_one (ps_ret (pv 1))))), ?_⟩
    obtain ⟨d, t1, t2⟩ := isi_str hin
    refine ⟨_, rfl, _, _, _, _, _, rfl, .ty "str", t1, t2, _, rfl, ?_⟩
    rcases shp_cases hs with ⟨x, rfl⟩ | ⟨y, ps, rfl, hp⟩
    · refine iteT ⟨_, rfl, (by show 1 ≤ sizeLine; decide), fun q hq => ?_⟩
      obtain rfl := hin.str
      exact k q _ (Same.new (Same.refl H) hq) hq (by rw [gapsOf_s]; exact upd_same)
    · refine iteF ?_
      obtain ⟨a, xs, rfl, hx, hg⟩ := hin.tup
      have hlen := hg.len
      have hsl := sz_len (.s y :: ps)
      have hgz : ∀ p ∈ ps, (gapsOf p).length ≤ sz p := fun p _ => gaps_len _ p (Nat.le_refl _)
      have hfl := gflat_len ps hgz
      rw [sz_t, List.map_cons, List.sum_cons] at hz
      refine ⟨(by show 0 ≤ sizeLine; decide), fun D hD => ⟨_, rfl, _, rfl, a, xs, rfl, sqt_same (Same.new (Same.refl H) hD) hx, whole_1 (ne_nil hg), fun q hq => ⟨q, rfl, ⟨_, SqT.of upd_same⟩, ?_⟩⟩⟩
      have sD := Same.new (o := .lst []) (Same.refl H) hD
      have sq := Same.new (o := .tup (cutV xs (some 1) none)) sD hq
      have nD : D ≠ q := fun z => by rw [← z, upd_same] at hq; cases hq
      have hgd : InL K (upd (upd H D (.lst [])) q (.tup (cutV xs (some 1) none))) (cutV xs (some 1) none) ps := by
        have z := (hg.drop 1).same sq
        rw [← cut_1] at z
        exact z
      have eq0 : (upd (upd H D (.lst [])) q (.tup (cutV xs (some 1) none))) q = some (.tup (cutV xs (some 1) none)) := upd_same
      refine for_tup (K := K) (a := q) (xs := cutV xs (some 1) none) (fun i σ H' => ∃ v2 : Option V, σ = [some (.ref a), some (.ref D), v2] ∧ Same H H' ∧ H' q = some (.tup (cutV xs (some 1) none)) ∧ H' D = some (.lst ((((ps.take i).map gapsOf).flatten).map V.str)))
        ⟨none, rfl, sq, eq0, by rw [upd_ne nD]; exact upd_same⟩ (fun i σ H' _ ⟨_, _, _, eq, _⟩ => SqT.of eq) ?_ ?_
      · rintro i x σ H' hi ⟨v2, rfl, sm, eq, eD⟩
        obtain ⟨g, hgi, hgin⟩ := hgd.at hi
        have hgm := List.mem_of_getElem? hgi
        have hin' : In K H' x g := by
          refine in_tk (fun b o e hk => ?_) _ _ (hp g hgm) (hg.drop 1 |>.at (i := i) (by rw [← cut_1]; exact hi) |>.elim fun g' z => by
            have : g' = g := by
              have e1 := z.1
              rw [show (G.s y :: ps).drop 1 = ps from rfl, hgi] at e1
              exact (Option.some.inj e1).symm
            exact this ▸ z.2)
          exact sm b o e
        have htl : ((ps.take i).map gapsOf).flatten.length ≤ ((ps.take i).map sz).sum := gflat_len _ fun p _ => gaps_len _ p (Nat.le_refl _)
        have hts := sum_takeLe (ps.map sz) i
        rw [← List.map_take] at hts
        have hgl := gaps_len _ g (Nat.le_refl _)
        have hgs := le_sum (List.mem_map.mpr ⟨g, hgm, rfl⟩ : sz g ∈ ps.map sz)
        refine ⟨_, rfl, .inl ⟨rfl, _, SqL.of eD⟩, _, rfl, x, g, rfl, hin', hp g hgm, dp_mem hd (List.mem_cons_of_mem _ hgm), by omega, fun b H2 s2 hb eb => ?_⟩
        have eD2 := s2 _ _ eD
        refine ⟨D, b, _, _, rfl, rfl, eD2, eb, ?_, some x, rfl, ?_, ?_, ?_⟩
        · rw [List.length_map, List.length_map, sizeLine_eq]
          omega
        · exact fun c o e => by
            rw [upd_ne (fun z => by rw [z, hD] at e; cases e)]
            exact s2 _ _ (sm _ _ e)
        · rw [upd_ne nD.symm]
          exact s2 _ _ eq
        · rw [upd_same, flatten_take hgi, List.map_append]
      · rintro σ H' ⟨v2, rfl, sm, eq, eD⟩
        rw [hgd.len, List.take_length] at eD
        exact ⟨_, rfl, k D H' sm hD (by rw [gapsOf_t]; exact eD)⟩
end
end K1
set_option Elab.async false
set_option linter.all false
set_option maxRecDepth 100000
set_option maxHeartbeats 2000000
namespace L2
open PySem PySem.Spec PyProof.Rows
/-- sorted(xs), texts, any number of them -/
def rSortSL (K : PySem.W.Frag) : List V → Hp → VK → Prop := fun vs H Q => ∃ (a : Addr) (xs : List Str), vs = [V.ref a] ∧ SqL K H a (xs.map V.str) ∧ ∀ (ys : List Str) (p : Addr), ys.Perm xs → SetS.Rises ys → H p = none → Q (.ref p) (upd H p (.lst (ys.map V.str)))
section
variable {X : Cx}
theorem cr_sortSL : CallR X (.builtin "sorted") (rSortSL X.K) := by
  intro pins s σ H vs us Q I r h
  obtain ⟨a, xs, rfl, hs, q⟩ := h
  obtain ⟨its, rv, hl, hz⟩ := I.list hs
  rw [Vals.ref1 r]
  have hi := strsOf_vals rv
  refine SrtO.sorted_ord SetS.swo hl.isList (by rw [← rv.length]; exact hz) (fun h2 h1 a' _ _ => SetS.sortable hi h2) fun out h1 h2 => ?_
  have h3 : ∀ v ∈ out, ∃ x t, v = Value.str x t := fun v hv => SetS.strs_mem hi v (h2.perm.mem_iff.mp hv)
  have pm : (out.map SetS.tv).Perm xs := by
    have z := h2.perm.map SetS.tv
    rw [SetS.tv_of hi] at z
    exact z
  obtain ⟨ep, he⟩ := PyProof.Rows.sortedAll_at s.heap its out.toArray
  have hlen : ((out.map SetS.tv).map V.str).length ≤ sizeLine := by
    rw [List.length_map, pm.length_eq]
    rw [List.length_map] at hz
    exact hz
  exact ⟨.ref _, upd H (s.heap.objs.size + 1) (.lst ((out.map SetS.tv).map V.str)), I.laid (t' := s.toks) (fun _ _ => PyProof.Rows.sortedAll_old) (Nat.le_succ _) ⟨hlen, out, ep, vals_ofS (SetS.strs_of h3), he⟩, rfl, q _ _ pm (SetS.rises_of h1) (I.hok.fresh (Nat.le_succ _))⟩
end
end L2
namespace K1
open PySem PySem.Spec PyProof.Rows L2
open PySem.W (EachIs)
abbrev sLGaps : Stmt := topS 67
abbrev nLGaps : List Str := ["_law_tree", "_law_found", "_law_part", "_law_blank"]
def spLGaps (K : PySem.W.Frag) (n : Nat) : Sp := fun vs H Q _ => ∃ (v : V) (g : G), vs = [v] ∧ In K H v g ∧ shp g = true ∧ dp g ≤ n ∧ sz g ≤ 2000 ∧ ∀ (a : Addr) (xs : List Str) (H' : Hp), Same H H' → H a = none → H' a = some (.lst (xs.map V.str)) → xs.Nodup → SetS.Rises xs → (∀ x, x ∈ xs ↔ x ∈ gapsOf g) → Q (.ref a) H'
section
variable {P : Program} {w : World} {K : PySem.W.Frag} {mg : Str → Option Value} {base : Heap}
theorem scLGaps : FnScope nLGaps ["_law_tree"] (defScope sLGaps) := ⟨rfl, rfl, rfl, by decide +kernel, rfl, by decide +kernel, by decide +kernel⟩
theorem in_here {K : PySem.W.Frag} {H H' : Hp} {xs : List V} {y : Str} {ps : List G} (hg : InL K H xs (.s y :: ps)) (hp : ∀ p ∈ ps, shp p = true) (sm : Same H H') {i : Nat} {x : V} {g : G} (hi : (cutV xs (some 1) none)[i]? = some x) (hgi : ps[i]? = some g) : In K H' x g := by
  obtain ⟨g', z1, z2⟩ := (hg.drop 1).at (i := i) (by rw [← cut_1]; exact hi)
  rw [show (G.s y :: ps).drop 1 = ps from rfl, hgi] at z1
  cases z1
  exact z2.same sm
theorem nodup_len {xs ys : List Str} (h : xs.Nodup) (hs : ∀ x ∈ xs, x ∈ ys) : xs.length ≤ ys.length := by
  induction xs generalizing ys with
  | nil => exact Nat.zero_le _
  | cons x r ih =>
    obtain ⟨h1, h2⟩ := List.nodup_cons.mp h
    have hx := hs x List.mem_cons_self
    have := ih (ys := ys.erase x) h2 fun z hz => (List.mem_erase_of_ne (fun e => h1 (by rw [← e]; exact hz))).mpr (hs z (List.mem_cons_of_mem _ hz))
    rw [List.length_erase_of_mem hx] at this
    have hp := List.length_pos_of_mem hx
    rw [List.length_cons]
    omega
theorem ok_lgaps {f : Addr} {fd : FuncData} {n : Nat} (F : Fun K "_law_gaps" "_law_gaps" sLGaps f fd) (IH : Df P w K mg base C8.CX0 "_law_gaps" n ["_law_tree"] (spLGaps K n)) (T : Ct mg) : FnOk P w K mg base C8.CX0 (n + 1) f fd ["_law_tree"] (spLGaps K (n + 1)) := by
  refine F.ok scLGaps (fun vs H Q E h => ?_) (fun cdv A outer s H vs Q E hr h => ?_)
  · obtain ⟨v, g, rfl, _⟩ := h
    rfl
  · obtain ⟨v, g, rfl, hin, hs, hd, hz, k⟩ := h
    refine ⟨_, pss_cons (ps_if (pt_val (pe_callB call_isi (by rfl) T.isi boot_isinstance (pa_cons (pv 0) (pa_cons (pe_bltn (v := .ty "str") (by rfl) T.str boot_str rfl) pa_nil)))) (pss_one (ps_ret (pe_lst (pa_cons (pv 0) pa_nil)))) pss_nil)
      (pss_cons (ps_set (i := 1) scLGaps.nd rfl (Or.inl rfl) (pe_lst pa_nil))
      (pss_cons (ps_for PassesOwn.never rfl (pi_tup (pe_slice sl_tup (pv 0) (po_some pe_int) po_none)) (pg_name (i := 2) scLGaps.nd rfl (Or.inl rfl))
        (pss_one (ps_for PassesOwn.never rfl (pi_list (pe_df IH hr pass0 (pa_cons (pv 2) pa_nil) (Nat.le_refl _))) (pg_name (i := 3) scLGaps.nd rfl (Or.inl rfl))
          (pss_one (ps_if (pt_cmpR op_notIn_seq (pv 3) (pv 1) (by rfl)) (pss_one (ps_expr (pe_bm PySem.F.plainAttrs_list PySem.F.slot_list_append PySem.F.type_list_append mt_append (pv 1) (pa_cons (pv 3) pa_nil)))) pss_nil)))))
      (pss_one (ps_ret (pe_callB cr_sortSL (by rfl) T.sorted (by decide +kernel) (pa_cons (pv 1) pa_nil)))))), ?_⟩
    obtain ⟨d, t1, t2⟩ := isi_str hin
    refine ⟨_, rfl, _, _, _, _, _, rfl, .ty "str", t1, t2, _, rfl, ?_⟩
    rcases shp_cases hs with ⟨x, rfl⟩ | ⟨y, ps, rfl, hp⟩
    · refine iteT ⟨_, rfl, (by show 1 ≤ sizeLine; decide), fun q hq => ?_⟩
      obtain rfl := hin.str
      exact k q [x] _ (Same.new (Same.refl H) hq) hq upd_same (by simp) (List.pairwise_singleton _ _) fun z => by rw [gapsOf_s]
    · refine iteF ?_
      obtain ⟨a, xs, rfl, hx, hg⟩ := hin.tup
      have hlen := hg.len
      have hsl := sz_len (.s y :: ps)
      have hgl0 : ∀ p ∈ ps, (gapsOf p).length ≤ sz p := fun p _ => gaps_len _ p (Nat.le_refl _)
      have hall := gflat_len ps hgl0
      rw [sz_t, List.map_cons, List.sum_cons] at hz
      refine ⟨(by show 0 ≤ sizeLine; decide), fun D hD => ⟨_, rfl, _, rfl, a, xs, rfl, sqt_same (Same.new (Same.refl H) hD) hx, whole_1 (ne_nil hg), fun q hq => ⟨q, rfl, ⟨_, SqT.of upd_same⟩, ?_⟩⟩⟩
      have sD := Same.new (o := .lst []) (Same.refl H) hD
      have sq := Same.new (o := .tup (cutV xs (some 1) none)) sD hq
      have nD : D ≠ q := fun z => by rw [← z, upd_same] at hq; cases hq
      have hxl : (cutV xs (some 1) none).length = ps.length := by
        rw [cut_1, List.length_drop, hlen]
        simp
      have bound : ∀ ys : List Str, ys.Nodup → (∀ z ∈ ys, z ∈ (ps.map gapsOf).flatten) → ys.length ≤ 2000 := fun ys h1 h2 => by
        have := nodup_len h1 h2
        omega
      have sub : ∀ (i : Nat) (z : Str), z ∈ ((ps.take i).map gapsOf).flatten → z ∈ (ps.map gapsOf).flatten := fun i z h => by
        rw [List.mem_flatten] at h ⊢
        obtain ⟨l, hl, hz⟩ := h
        obtain ⟨p, hp, rfl⟩ := List.mem_map.mp hl
        exact ⟨_, List.mem_map.mpr ⟨p, List.mem_of_mem_take hp, rfl⟩, hz⟩
      refine for_tup (K := K) (a := q) (xs := cutV xs (some 1) none) (fun i σ H' => ∃ (v2 v3 : Option V) (ys : List Str), σ = [some (.ref a), some (.ref D), v2, v3] ∧ Same H H' ∧ H' q = some (.tup (cutV xs (some 1) none)) ∧ H' D = some (.lst (ys.map V.str)) ∧ ys.Nodup ∧ ∀ z, z ∈ ys ↔ z ∈ ((ps.take i).map gapsOf).flatten)
        ⟨none, none, [], rfl, sq, upd_same, by rw [upd_ne nD]; exact upd_same, List.nodup_nil, by simp⟩ (fun i σ H' _ ⟨_, _, _, _, _, eq, _⟩ => SqT.of eq) ?_ ?_
      · rintro i x σ H' hi ⟨v2, v3, ys, rfl, sm, eq, eD, nd, mem⟩
        obtain ⟨g, hgi⟩ : ∃ g, ps[i]? = some g := ⟨_, List.getElem?_eq_getElem (by rw [← hxl]; exact (List.getElem?_eq_some_iff.mp hi).1)⟩
        have hgm := List.mem_of_getElem? hgi
        have hin' : In K H' x g := in_here hg hp sm hi hgi
        have hgs := le_sum (List.mem_map.mpr ⟨g, hgm, rfl⟩ : sz g ∈ ps.map sz)
        refine ⟨_, rfl, x, g, rfl, hin', hp g hgm, dp_mem hd (List.mem_cons_of_mem _ hgm), by omega, fun b bs H2 s2 hb eb nb _ mb => ?_⟩
        have nbD : b ≠ D := fun z => by rw [z, eD] at hb; cases hb
        have nqb : q ≠ b := fun z => by rw [← z, eq] at hb; cases hb
        refine ⟨b, rfl, ⟨_, SqL.of eb⟩, for_list (K := K) (a := b) (xs := bs.map V.str) (fun j σ H' => ∃ (v3 : Option V) (zs : List Str), σ = [some (.ref a), some (.ref D), some x, v3] ∧ Same H H' ∧ H' q = some (.tup (cutV xs (some 1) none)) ∧ H' b = some (.lst (bs.map V.str)) ∧ H' D = some (.lst (zs.map V.str)) ∧ zs.Nodup ∧ ∀ z, z ∈ zs ↔ z ∈ ys ∨ z ∈ bs.take j)
          ⟨v3, ys, rfl, sm.trans s2, s2 _ _ eq, eb, s2 _ _ eD, nd, by simp⟩ (fun j σ H' _ ⟨_, _, _, _, _, eb', _⟩ => SqL.of eb') ?_ ?_⟩
        · rintro j w σ H3 hj ⟨v3, zs, rfl, sm3, eq3, eb3, eD3, nz, mz⟩
          rw [List.getElem?_map, Option.map_eq_some_iff] at hj
          obtain ⟨bj, hbj, rfl⟩ := hj
          have hbm := List.mem_of_getElem? hbj
          have zb : zs.length ≤ 2000 := bound zs nz fun z hz => by
            rcases (mz z).mp hz with h | h
            · exact sub i z ((mem z).mp h)
            · exact sub (i + 1) z (by rw [flatten_take hgi]; exact List.mem_append.mpr (.inr ((mb z).mp (List.mem_of_mem_take h))))
          refine ⟨.str bj, rfl, .ref D, rfl, D, _, rfl, .inl (SqL.of eD3), rfl, flat_strs zs, _, rfl, ?_⟩
          have hin0 : inV (.str bj) (zs.map V.str) = decide (bj ∈ zs) := inV_str bj zs
          refine ite2 (fun h1 => ?_) (fun h1 => ?_)
          · have hn : bj ∉ zs := by
              rw [hin0] at h1
              simpa using h1
            refine ⟨_, rfl, .inl ⟨rfl, _, SqL.of eD3⟩, _, rfl, D, _, .str bj, rfl, rfl, eD3, by rw [List.length_map, sizeLine_eq]; omega, some (.str bj), zs ++ [bj], rfl, ?_, ?_, ?_, ?_, ?_, fun z => ?_⟩
            · exact fun c o e => by
                rw [upd_ne (fun z => by rw [z, hD] at e; cases e)]
                exact sm3 _ _ e
            · rw [upd_ne nD.symm]
              exact eq3
            · rw [upd_ne nbD]
              exact eb3
            · rw [upd_same, List.map_append]
              rfl
            · rw [List.nodup_append]
              refine ⟨nz, by simp, fun z hz w hw => ?_⟩
              rw [List.mem_singleton.mp hw]
              exact fun e => hn (e ▸ hz)
            · rw [List.mem_append, mz z, List.take_succ, hbj, List.mem_append]
              simp only [Option.toList_some, List.mem_singleton]
              exact or_assoc
          · have hn : bj ∈ zs := by
              rw [hin0] at h1
              simpa using h1
            refine ⟨some (.str bj), zs, rfl, sm3, eq3, eb3, eD3, nz, fun z => ?_⟩
            rw [mz z, List.take_succ, hbj, List.mem_append]
            simp only [Option.toList_some, List.mem_singleton]
            constructor
            · rintro (h | h)
              · exact .inl h
              · exact .inr (.inl h)
            · rintro (h | h | h)
              · exact .inl h
              · exact .inr h
              · rw [h]
                exact (mz bj).mp hn
        · rintro σ H3 ⟨v3, zs, rfl, sm3, eq3, eb3, eD3, nz, mz⟩
          rw [List.length_map, List.take_length] at mz
          refine ⟨some x, v3, zs, rfl, sm3, eq3, eD3, nz, fun z => ?_⟩
          rw [flatten_take hgi, List.mem_append, ← mem z, ← mb z]
          exact mz z
      · rintro σ H' ⟨v2, v3, ys, rfl, sm, eq, eD, nd, mem⟩
        rw [hxl, List.take_length] at mem
        refine ⟨_, rfl, D, ys, rfl, SqL.of eD, fun zs p pm up hp => ?_⟩
        exact k p zs _ (Same.new sm hp) (Same.free sm hp) upd_same (pm.nodup_iff.mpr nd) up fun z => by rw [pm.mem_iff, mem z, gapsOf_t]
end
end K1
set_option Elab.async false
set_option linter.all false
set_option maxRecDepth 100000
set_option maxHeartbeats 2000000
namespace K1
open PySem PySem.Spec PyProof.Rows L2
open PySem.W (EachIs)
abbrev sortsA : List (Str × Nat) := [("plain", 0), ("plain", 1), ("plain", 2), ("plain", 3), ("plain", 4), ("pair", 2), ("row", 2), ("heap", 2)]
theorem sortsA_ok : ∀ s ∈ sortsA, s.1 ∈ kinds4 ∧ (s.1 = "pair" → s.2 = 2) ∧ s.2 ≤ 4 := by decide +kernel
theorem sorts7_A : ∀ s ∈ sorts7, s ∈ sortsA := by decide +kernel
/-- signs as they are drawn -/
structure Sg (L : List Ln) : Prop where
  ok : LOk L
  nd : (L.map (·.1)).Nodup
  ne : L ≠ []
  rw : ∀ l ∈ L, l.2 ∈ sortsA
theorem Sn.sg {L : List Ln} (S : Sn L) : Sg L := ⟨S.ok, S.nd, S.ne, fun l h => sorts7_A _ (S.rw l h)⟩
theorem sg_of {L : List Ln} (h1 : ∀ l ∈ L, nameB l.1 = true) (h2 : (L.map (·.1)).Nodup) (h3 : L ≠ []) (h4 : L.length ≤ 24) (h5 : ∀ l ∈ L, l.2 ∈ sortsA) : Sg L :=
  ⟨⟨fun l h => (sortsA_ok _ (h5 l h)).1, fun l h => (sortsA_ok _ (h5 l h)).2.1, h1, h4, fun l h => (sortsA_ok _ (h5 l h)).2.2⟩, h2, h3, h5⟩
theorem row_signA {l : Ln} (h1 : nameB l.1 = true) (h2 : l.2 ∈ sortsA) : signD (rowD l) = true := by
  obtain ⟨n, k, m⟩ := l
  simp only at h1 h2
  have key : ∀ s ∈ sortsA, (if PyData.eqv (.str s.1) (.str "plain") then decide (0 ≤ (s.2 : Int) ∧ (s.2 : Int) ≤ 4) else kindsD (.str s.1) && decide ((s.2 : Int) = 2)) = true := by decide +kernel
  show (nameD (.str n) && if PyData.eqv (.str k) (.str "plain") then decide (0 ≤ (m : Int) ∧ (m : Int) ≤ 4) else kindsD (.str k) && decide ((m : Int) = 2)) = true
  rw [key (k, m) h2, show nameD (.str n) = nameB n from rfl, h1]
  rfl
theorem Sg.signs {L : List Ln} (S : Sg L) : signsD (.list (L.map rowD)) = true := by
  have hl : 1 ≤ L.length := List.length_pos_iff.mpr S.ne
  have hl2 := S.ok.len
  unfold signsD
  show (true && (decide (1 ≤ (L.map rowD).length ∧ (L.map rowD).length ≤ 24) && goRows (L.map rowD) [])) = true
  rw [List.length_map, decide_eq_true ⟨hl, hl2⟩, rows_go L [] (fun l h => row_signA (S.ok.nm l h) (S.rw l h)) S.nd (fun _ _ z => absurd z (by simp))]
  rfl
theorem dpr_set {K : PySem.W.Frag} {H : Hp} {v : V} {l : Ln} (hv : Dp K H v (rowD l)) : ∀ {xs : List V} {L : List Ln} (i : Nat), DpAll K H xs (L.map rowD) → DpAll K H (xs.set i v) ((L.set i l).map rowD)
  | [], [], _, .nil => .nil
  | _ :: _, _ :: _, 0, .cons _ t => .cons hv t
  | _ :: _, _ :: _, i + 1, .cons h t => .cons h (dpr_set hv i t)
abbrev sSgR : Stmt := topS 57
abbrev nSgR : List Str := ["_law_state", "_law_lines", "_law_word", "_law_kind", "_law_many", "_law_at"]
abbrev kinds5 : List Str := ["plain", "plain", "pair", "row", "heap"]
def spSgR (K : PySem.W.Frag) (TT : List (Addr × Str)) : Sp := fun vs H Q _ => ∃ (d g c : Addr) (t : Nat), vs = [.ref d] ∧ Wd TT d g c t H ∧ t + 120 < 2 ^ 30 ∧
  ∀ (ll : Addr) (L : List Ln) (xs : List V) (H' : Hp), hid [d, g] H' ll = some (.lst xs) → DpAll K (hid [d, g] H') xs (L.map rowD) → Sg L → Wd TT d g c (t + 120) H' → Kn d g H H' → Q (.ref ll) H'
section
variable {P : Program} {w : World} {K : PySem.W.Frag} {mg : Str → Option Value} {base : Heap}
theorem scSgR : FnScope nSgR ["_law_state"] (defScope sSgR) := ⟨rfl, rfl, rfl, by decide +kernel, rfl, by decide +kernel, by decide +kernel⟩
/-- the loop's state -/
structure Rw (K : PySem.W.Frag) (TT : List (Addr × Str)) (d g c D lw : Addr) (t : Nat) (ws : List Str) (H : Hp) (xs : List V) (L : List Ln) (i : Nat) (H' : Hp) : Prop where
  W : Wd TT d g c (t + 2 * i) H'
  n : Kn d g H H'
  eD : H' D = some (.lst xs)
  ew : H' lw = some (.lst (ws.map V.str))
  dp : DpAll K (hid [d, g] H') xs (L.map rowD)
  nm : L.map (·.1) = ws.take i
  rw : ∀ l ∈ L, l.2 ∈ sortsA
  len : xs.length = i
theorem Rw.kp {TT : List (Addr × Str)} {d g c D lw : Addr} {t : Nat} {ws : List Str} {H : Hp} {xs : List V} {L : List Ln} {i : Nat} {H' H2 : Hp} (r : Rw K TT d g c D lw t ws H xs L i H') {u : Nat} (G : Gen d g c (t + 2 * i + u) H2) (k : Kp d g H' H2) (Dd : D ≠ d) (Dg : D ≠ g) (wd : lw ≠ d) (wg : lw ≠ g) :
    Wd TT d g c (t + 2 * i + u) H2 ∧ Kn d g H H2 ∧ H2 D = some (.lst xs) ∧ H2 lw = some (.lst (ws.map V.str)) ∧ DpAll K (hid [d, g] H2) xs (L.map rowD) :=
  ⟨r.W.kp G k, r.n.trans (.kp k), k _ _ Dd Dg r.eD, k _ _ wd wg r.ew, dpr_ext (Kn.kp k).hid _ r.dp⟩
theorem ok_sgR {f : Addr} {fd : FuncData} {TT : List (Addr × Str)} (F : Fun K "_law_sign_rows" "_law_sign_rows" sSgR f fd) (DT : Df P w K mg base C8.CX0 "_law_take" 2 ["_law_state", "_law_size"] spTake) (DW : Df P w K mg base C8.CX0 "_law_words" 3 ["_law_state", "_law_size"] spWords) (T : Ct mg) :
    FnOk P w K mg base C8.CX0 4 f fd ["_law_state"] (spSgR K TT) := by
  refine F.ok scSgR (fun vs H Q E h => ?_) (fun cdv A outer s H vs Q E hr h => ?_)
  · obtain ⟨d, g, c, t, rfl, _⟩ := h
    rfl
  · obtain ⟨d, g, c, t, rfl, W, ht, k⟩ := h
    refine ⟨_, pss_cons (ps_set (i := 1) scSgR.nd rfl (Or.inl rfl) (pe_lst pa_nil))
      (pss_cons (ps_for PassesOwn.never rfl (pi_list (pe_df DW hr pass0 (pa_cons (pv 0) (pa_cons (pe_op op_add pe_int (pe_df DT hr pass0 (pa_cons (pv 0) (pa_cons pe_int pa_nil)))) pa_nil)))) (pg_name (i := 2) scSgR.nd rfl (Or.inl rfl))
        (pss_cons (ps_set (i := 3) scSgR.nd rfl (Or.inl rfl) (pe_ix ix_list (pe_lst (pa_cons pe_str (pa_cons pe_str (pa_cons pe_str (pa_cons pe_str (pa_cons pe_str pa_nil)))))) (pe_df DT hr pass0 (pa_cons (pv 0) (pa_cons pe_int pa_nil))) (fun _ _ => rfl)))
        (pss_cons (ps_set (i := 4) scSgR.nd rfl (Or.inl rfl) (pe_ifExp (pt_cmpR op_eq (pv 3) pe_str (nomark _)) (pe_df DT hr pass0 (pa_cons (pv 0) (pa_cons pe_int pa_nil))) pe_int))
        (pss_one (ps_expr (pe_bm PySem.F.plainAttrs_list PySem.F.slot_list_append PySem.F.type_list_append mt_append (pv 1) (pa_cons (pe_tup (pa_cons (pv 2) (pa_cons (pv 3) (pa_cons (pv 4) pa_nil)))) pa_nil)))))))
      (pss_cons (ps_set (i := 5) scSgR.nd rfl (Or.inl rfl) (pe_df DT hr pass0 (pa_cons (pv 0) (pa_cons (pe_callB call_len_seq (by rfl) T.len PySem.boot_len (pa_cons (pv 1) pa_nil)) pa_nil))))
      (pss_cons (ps_asg (pe_tup (pa_cons (pe_ix ix_tup (pe_ix ix_list (pv 1) (pv 5) (fun _ _ => rfl)) pe_int (fun _ _ => rfl)) (pa_cons pe_str (pa_cons pe_int pa_nil)))) (pg_sub (pv 1) (pv 5) set_list))
      (pss_one (ps_ret (pv 1)))))), ?_⟩
    refine ⟨(by show 0 ≤ sizeLine; decide), fun D hD => ?_⟩
    have sD := Same.new (o := .lst []) (Same.refl H) hD
    obtain ⟨Dd, Dg⟩ := W.G.nd hD
    have Dc := W.G.nc hD
    have W0 := W.same sD
    refine ⟨_, rfl, _, rfl, d, g, c, t, 7, rfl, W0.G, by omega, by decide, by decide, fun v1 H1 a0 a1 G1 k1 => ⟨_, _, rfl, rfl, ?_⟩⟩
    obtain ⟨N, rfl⟩ := Int.eq_ofNat_of_zero_le a0
    have W1 := W0.kp G1 k1
    have n1 : Kn d g H H1 := (Kn.same sD).trans (.kp k1)
    have eD1 := k1 _ _ Dd Dg (upd_same (H := H) (a := D) (o := .lst []))
    refine ⟨d, g, c, _, 2 + N, (by show [V.ref d, V.int ((2 : Int) + (N : Int))] = _; rfl), W1.G, by omega, by omega, fun lw ws H2 wl wn ww ew hw0 G2 k2 => ?_⟩
    obtain ⟨wd, wg⟩ := W1.G.nd hw0
    have nwD : D ≠ lw := fun z => by rw [← z, eD1] at hw0; cases hw0
    have W2 : Wd TT d g c (t + 100) H2 := (W1.kp G2 k2).mono (by omega)
    have n2 : Kn d g H H2 := n1.trans (.kp k2)
    have eD2 := k2 _ _ Dd Dg eD1
    refine ⟨lw, rfl, ⟨_, SqL.of ew⟩, for_list (K := K) (a := lw) (xs := ws.map V.str) (fun i σ H' => ∃ (v2 v3 v4 : Option V) (xs : List V) (L : List Ln), σ = [some (.ref d), some (.ref D), v2, v3, v4, none] ∧ Rw K TT d g c D lw (t + 100) ws H xs L i H')
      ⟨none, none, none, [], [], rfl, W2, n2, eD2, ew, .nil, by simp, (fun l hl => by cases hl), rfl⟩ (fun i σ H' _ ⟨_, _, _, _, _, _, r⟩ => SqL.of r.ew) ?_ ?_⟩
    · rintro i x σ H' hi ⟨v2, v3, v4, xs, L, rfl, r⟩
      rw [List.getElem?_map, Option.map_eq_some_iff] at hi
      obtain ⟨wi, hwi, rfl⟩ := hi
      have hil := (List.getElem?_eq_some_iff.mp hwi).1
      refine ⟨(by show 5 ≤ sizeLine; decide), fun p hp => ?_⟩
      have s3 := Same.new (o := .lst [.str "plain", .str "plain", .str "pair", .str "row", .str "heap"]) (Same.refl H') hp
      obtain ⟨pd, pg⟩ := r.W.G.nd hp
      have r3 : Rw K TT d g c D lw (t + 100) ws H xs L i _ := ⟨r.W.same s3, r.n.trans (.same s3), s3 _ _ r.eD, s3 _ _ r.ew, dpr_ext (Kn.same s3).hid _ r.dp, r.nm, r.rw, r.len⟩
      refine ⟨_, rfl, d, g, c, _, 5, rfl, r3.W.G, by omega, by decide, by decide, fun u1 H4 b0 b1 G4 k4 => ?_⟩
      obtain ⟨W4, n4, eD4, ew4, dp4⟩ := r3.kp G4 k4 Dd Dg wd wg
      obtain ⟨y, hy, my⟩ := at_nat (xs := kinds5.map V.str) b0 b1
      obtain ⟨kd, hkd, rfl⟩ := get_map my
      have ep4 := k4 _ _ pd pg (upd_same (H := H') (a := p) (o := .lst [.str "plain", .str "plain", .str "pair", .str "row", .str "heap"]))
      refine ⟨p, _, _, _, rfl, rfl, SqL.of ep4, hy, ?_⟩
      -- what comes behind, whatever many is
      have fin : ∀ (m : Nat) (H5 : Hp), (kd, m) ∈ sortsA → Wd TT d g c (t + 100 + 2 * (i + 1)) H5 → Kn d g H H5 → H5 D = some (.lst xs) → H5 lw = some (.lst (ws.map V.str)) → DpAll K (hid [d, g] H5) xs (L.map rowD) →
          ∀ q, H5 q = none → ∃ (v2 v3 v4 : Option V) (xs' : List V) (L' : List Ln), [some (V.ref d), some (.ref D), some (.str wi), some (.str kd), some (.int m), none] = [some (.ref d), some (.ref D), v2, v3, v4, none] ∧ Rw K TT d g c D lw (t + 100) ws H xs' L' (i + 1) (upd (upd H5 q (.tup [.str wi, .str kd, .int m])) D (.lst (xs ++ [.ref q]))) := by
        intro m H5 hm W5 n5 eD5 ew5 dp5 q hq
        have s6 := Same.new (o := .tup [.str wi, .str kd, .int m]) (Same.refl H5) hq
        have nq : D ≠ q := ne_of_none eD5 hq
        obtain ⟨qd, qg⟩ := W5.G.nd hq
        have W6 := W5.same s6
        have eD6 := s6 _ _ eD5
        refine ⟨_, _, _, xs ++ [.ref q], L ++ [(wi, kd, m)], rfl, W6.off eD6 Dd Dg Dc, (n5.trans (.same s6)).updF (.refl) hD, upd_same, ?_, ?_, ?_, ?_, ?_⟩
        · rw [upd_ne nwD.symm]
          exact s6 _ _ ew5
        · have tk : TupK (hid [d, g] H5) (hid [d, g] (upd (upd H5 q (.tup [.str wi, .str kd, .int m])) D (.lst (xs ++ [.ref q])))) := fun b o e hb => by
            obtain ⟨b1, b2, b3⟩ := hid_got e
            refine hid_get b1 b2 ?_
            rw [upd_ne (fun z => ?_)]
            · exact s6 _ _ b3
            · rw [z, eD5] at b3
              cases b3
              rcases hb with ⟨_, z⟩ | ⟨_, _, z⟩ <;> cases z
          refine dpr_snoc (dpr_tk tk _ dp5) (.tup (SqT.of (hid_get qd qg ?_)) (.cons (.str _) (.cons (.str _) (.cons (.int _) .nil))))
          rw [upd_ne nq.symm]
          exact upd_same
        · rw [List.map_append, r.nm, take_snoc hwi]
          rfl
        · intro l hl
          rcases List.mem_append.mp hl with hl | hl
          · exact r.rw l hl
          · rw [List.mem_singleton.mp hl]
            exact hm
        · rw [List.length_append, r.len]
          rfl
      refine ⟨_, rfl, rfl, _, rfl, ?_⟩
      refine ite2 (fun h1 => ?_) (fun h1 => ?_)
      · have h1' : kd = "plain" := V.str.inj (of_decide_eq_true h1)
        subst h1'
        refine ⟨_, rfl, d, g, c, _, 5, rfl, W4.G, by omega, by decide, by decide, fun u2 H5 c0 c1 G5 k5 => ?_⟩
        obtain ⟨m, rfl⟩ := Int.eq_ofNat_of_zero_le c0
        have hm5 : m < 5 := by omega
        have hms : ((Str.ofString "plain"), m) ∈ sortsA := by
          have : m = 0 ∨ m = 1 ∨ m = 2 ∨ m = 3 ∨ m = 4 := by omega
          rcases this with rfl | rfl | rfl | rfl | rfl <;> decide +kernel
        have W5 := (W4.kp G5 k5)
        have eD5 := k5 _ _ Dd Dg eD4
        refine ⟨_, rfl, .inl ⟨rfl, _, SqL.of eD5⟩, _, rfl, _, rfl, _, rfl, (by show 3 ≤ sizeLine; decide), fun q hq => ?_⟩
        have nq : D ≠ q := ne_of_none eD5 hq
        refine ⟨D, xs, .ref q, rfl, rfl, by rw [upd_ne nq]; exact eD5, by rw [r.len, sizeLine_eq]; omega, ?_⟩
        exact fin m H5 hms (W5.mono (by omega)) (n4.trans (.kp k5)) eD5 (k5 _ _ wd wg ew4) (dpr_ext (Kn.kp k5).hid _ dp4) q hq
      · have hk : (kd, 2) ∈ sortsA := by
          have : ∀ k ∈ kinds5, decide (V.str k = V.str (Str.ofString "plain")) = false → (k, 2) ∈ sortsA := by decide +kernel
          exact this kd hkd (by simpa using h1)
        refine ⟨_, rfl, .inl ⟨rfl, _, SqL.of eD4⟩, _, rfl, _, rfl, _, rfl, (by show 3 ≤ sizeLine; decide), fun q hq => ?_⟩
        have nq : D ≠ q := ne_of_none eD4 hq
        refine ⟨D, xs, .ref q, rfl, rfl, by rw [upd_ne nq]; exact eD4, by rw [r.len, sizeLine_eq]; omega, ?_⟩
        exact fin 2 H4 hk (W4.mono (by omega)) n4 eD4 ew4 dp4 q hq
    · rintro σ H' ⟨v2, v3, v4, xs, L, rfl, r⟩
      have hxl := r.len
      rw [List.length_map, wl] at hxl
      have hnm := r.nm
      rw [List.length_map, List.take_length] at hnm
      have hLl : L.length = 2 + N := by
        have := congrArg List.length hnm
        rw [List.length_map, wl] at this
        exact this
      have hWr := r.W
      rw [List.length_map, wl] at hWr
      refine ⟨_, rfl, _, rfl, D, _, rfl, .inl (SqL.of r.eD), d, g, c, _, ((xs.length : Nat) : Int), rfl, hWr.G, by omega, by omega, by omega, fun at' H3 b0 b1 G3 k3 => ?_⟩
      obtain ⟨A, rfl⟩ := Int.eq_ofNat_of_zero_le b0
      have hA : A < xs.length := by omega
      have W3 := hWr.kp G3 k3
      have n3 := r.n.trans (.kp k3)
      have eD3 := k3 _ _ Dd Dg r.eD
      have dp3 : DpAll K (hid [d, g] H3) xs (L.map rowD) := dpr_ext (Kn.kp k3).hid _ r.dp
      obtain ⟨l, hl, hld⟩ := dpr_at dp3 (List.getElem?_eq_getElem hA)
      obtain ⟨b, eb, hb⟩ := row_at hld
      refine ⟨_, rfl, _, rfl, D, xs, A, .ref b, rfl, rfl, SqL.of eD3, by rw [← eb]; exact atI_nat (List.getElem?_eq_getElem hA), b, _, 0, _, rfl, rfl, sqt_same hid_le hb, atI_nat (j := 0) rfl, (by show 3 ≤ sizeLine; decide), fun q hq => ?_⟩
      have s4 := Same.new (o := .tup [.str l.1, .str "plain", .int 0]) (Same.refl H3) hq
      have nq : D ≠ q := ne_of_none eD3 hq
      obtain ⟨qd, qg⟩ := W3.G.nd hq
      have eD4 := s4 _ _ eD3
      have W4 := W3.same s4
      refine ⟨_, rfl, _, rfl, D, xs, A, A, rfl, rfl, eD4, by unfold ixN; rw [if_pos (by omega), if_pos (by omega)]; rfl, _, rfl, ?_⟩
      refine k D (L.set A (l.1, "plain", 0)) (xs.set A (.ref q)) _ (hid_get Dd Dg upd_same) ?_ ?_ ((W4.off eD4 Dd Dg Dc).mono (by omega)) ((n3.trans (.same s4)).updF (.refl) hD)
      · have tk : TupK (hid [d, g] H3) (hid [d, g] (upd (upd H3 q (.tup [.str l.1, .str "plain", .int 0])) D (.lst (xs.set A (.ref q))))) := fun b o e hb => by
          obtain ⟨b1, b2, b3⟩ := hid_got e
          refine hid_get b1 b2 ?_
          rw [upd_ne (fun z => ?_)]
          · exact s4 _ _ b3
          · rw [z, eD3] at b3
            cases b3
            rcases hb with ⟨_, z⟩ | ⟨_, _, z⟩ <;> cases z
        refine dpr_set (.tup (SqT.of (hid_get qd qg ?_)) (.cons (.str _) (.cons (.str _) (.cons (.int _) .nil)))) A (dpr_tk tk _ dp3)
        rw [upd_ne nq.symm]
        exact upd_same
      · have hnm' : (L.set A (l.1, "plain", 0)).map (·.1) = ws := by
          rw [List.map_set]
          show (L.map (·.1)).set A l.1 = ws
          rw [hnm]
          have : ws[A]? = some l.1 := by rw [← hnm, List.getElem?_map, hl]; rfl
          apply List.ext_getElem?
          intro i
          rw [List.getElem?_set]
          by_cases h : A = i
          · subst h
            have hl2 := (List.getElem?_eq_some_iff.mp this).1
            rw [if_pos rfl, if_pos hl2, this]
          · rw [if_neg h]
        refine sg_of (fun m hm => ?_) (by rw [hnm']; exact wn) (fun z => ?_) (by rw [List.length_set, hLl]; omega) fun m hm => ?_
        · exact ww _ (by rw [← hnm']; exact List.mem_map.mpr ⟨m, hm, rfl⟩)
        · have := congrArg List.length z
          rw [List.length_set, hLl] at this
          simp at this
        · rcases List.mem_or_eq_of_mem_set hm with h | h
          · exact r.rw m h
          · rw [h]
            show (Str.ofString "plain", 0) ∈ sortsA
            decide +kernel
end
end K1
set_option Elab.async false
set_option linter.all false
set_option maxRecDepth 100000
set_option maxHeartbeats 2000000
namespace K1
open PySem PySem.Spec PyProof.Rows L2
open PySem.W (EachIs)
abbrev sTermText : Stmt := topS 46
/-- what a def asks of a draft -/
def aText : Hp → G → V → Hp → Prop := fun _ g v _ => v = .str (text g)
section
variable {P : Program} {w : World} {K : PySem.W.Frag} {mg : Str → Option Value} {base : Heap}
theorem scTermText : FnScope ["signs", "term"] ["signs", "term"] (defScope sTermText) := ⟨rfl, rfl, rfl, by decide +kernel, rfl, by decide +kernel, by decide +kernel⟩
theorem ok_termText {f fl C CT : Addr} {fd fdl : FuncData} {m j n : Nat} (F : Fun K "term_text" "term_text" sTermText f fd) (FL : FnOk P w K mg base (L2.CX P w) j fl fdl ["signs", "draft"] (spAsk K C CT (aLaid K))) (gL : mg "laid" = some (.ref fl)) (kL : PySem.W.keepIn K (.ref fl) = true) (bL : Binds K fdl ["signs", "draft"] [])
    (DP : Df P w K mg base C8.CX0 "text_of" m ["term"] (sp1 K n fun g => .str (text g))) (hj : j ≤ m) (hn : 13 ≤ n) : FnOk P w K mg base (L2.CX P w) (m + 1) f fd ["signs", "term"] (spAsk K C CT aText) := by
  refine F.okX scTermText (fun vs H Q E h => ?_) (fun cdv A outer s H vs Q E hr h => ?_)
  · obtain ⟨p, L, v, g, rfl, _⟩ := h
    rfl
  · obtain ⟨p, L, v, g, rfl, S, ok, hin, hf, hz, k⟩ := h
    refine ⟨_, pss_one (ps_ret (pe_df DP hr pass0 (pa_cons (pe_call FL (hr.mono hj) (by rfl) gL kL bL .nil (passes_call (takes_of rfl rfl rfl rfl) fun _ _ _ _ h => h) (pa_cons (pv 0) (pa_cons (pv 1) pa_nil))) pa_nil) (Nat.le_refl _))), ?_⟩
    refine ⟨_, rfl, _, rfl, p, L, v, g, rfl, S, ok, hin, hf, hz, fun H1 s1 => ⟨fun e v' hv' => ?_, fun e => (k H1 s1).2 e⟩⟩
    obtain ⟨hL, hs, hd⟩ := lay0_less e hf
    exact ⟨v', laid L g, rfl, hv', hL.shp, hL.fine, by have := hL.dp; omega, by have := hL.sz; omega, fun H2 s2 => (k H2 (s1.trans s2)).1 e _ rfl⟩
end
end K1
set_option Elab.async false
set_option linter.all false
set_option maxRecDepth 100000
set_option maxHeartbeats 2000000
namespace K1
open PySem PySem.Spec PyProof.Rows L2
open PySem.W (EachIs)
abbrev sWordsOf : Stmt := topS 47
abbrev nWordsOf : List Str := ["text", "words", "word", "letter"]
abbrev mk3 : List V := [.str oP, .str cP, .str cm]
/-- the name MARKS -/
structure Mks (K : PySem.W.Frag) (mg : Str → Option Value) (aM : Addr) : Prop where
  g : mg "MARKS" = some (.ref aM)
  t : ∀ H, SqT K H aM mk3
def rAdS : V → V → Hp → VK → Prop := fun x y H Q => ∃ i j, x = .str i ∧ y = .str j ∧ i.length + j.length ≤ sizeLine ∧ Q (.str (i ++ j)) H
theorem ip_addS {X : Cx} : PIp X .Add rAdS := fun pins s σ H x y v u Q I rx ry h => iop_add_str pins s σ H x y v u Q I rx ry h
theorem in3 (x a b c : Str) : inV (.str x) [.str a, .str b, .str c] = decide (x ∈ [a, b, c]) := by
  unfold inV
  simp only [List.any_cons, List.any_nil, Bool.or_false, eqV]
  rw [Bool.eq_iff_iff]
  simp only [Bool.or_eq_true, beq_iff_eq, decide_eq_true_iff, List.mem_cons, List.not_mem_nil, or_false]
  constructor
  · rintro (h | h | h)
    · exact .inl h.symm
    · exact .inr (.inl h.symm)
    · exact .inr (.inr h.symm)
  · rintro (h | h | h)
    · exact .inl h.symm
    · exact .inr (.inl h.symm)
    · exact .inr (.inr h.symm)
theorem in_mk (x : Str) : inV (.str x) mk3 = isMk x := in3 x _ _ _
theorem flat_mk : mk3.all flatV = true := rfl
def spWordsOf : Sp := fun vs H Q _ => ∃ (x : Str), vs = [.str x] ∧ x.length ≤ 100000 ∧ ∀ a H', Same H H' → H a = none → H' a = some (.lst ((wrun x).map V.str)) → Q (.ref a) H'
section
variable {P : Program} {w : World} {K : PySem.W.Frag} {mg : Str → Option Value} {base : Heap}
theorem scWordsOf : FnScope nWordsOf ["text"] (defScope sWordsOf) := ⟨rfl, rfl, rfl, by decide +kernel, rfl, by decide +kernel, by decide +kernel⟩
theorem ok_wordsOf {f aM : Addr} {fd : FuncData} (F : Fun K "words_of" "words_of" sWordsOf f fd) (M : Mks K mg aM) : FnOk P w K mg base C8.CX0 1 f fd ["text"] spWordsOf := by
  refine F.ok scWordsOf (fun vs H Q E h => ?_) (fun cdv A outer s H vs Q E hr h => ?_)
  · obtain ⟨x, rfl, _⟩ := h
    rfl
  · obtain ⟨x, rfl, hx, k⟩ := h
    refine ⟨_, pss_cons (ps_set (i := 1) scWordsOf.nd rfl (Or.inl rfl) (pe_lst pa_nil))
      (pss_cons (ps_set (i := 2) scWordsOf.nd rfl (Or.inl rfl) pe_str)
      (pss_cons (ps_for PassesOwn.never rfl (pi_str (pv 0)) (pg_name (i := 3) scWordsOf.nd rfl (Or.inl rfl))
        (pss_one (ps_if (pt_cmpR op_in_seq (pv 3) (pe_glob (v := .ref aM) (by rfl) M.g rfl) (by rfl))
          (pss_cons (ps_expr (pe_bm PySem.F.plainAttrs_list PySem.F.slot_list_extend PySem.F.type_list_extend mt_extend (pv 1) (pa_cons (pe_ifExp (pt_truth (pv 2) (by intro _; rfl)) (pe_lst (pa_cons (pv 2) (pa_cons (pv 3) pa_nil))) (pe_lst (pa_cons (pv 3) pa_nil))) pa_nil)))
            (pss_one (ps_set (i := 2) scWordsOf.nd rfl (Or.inl rfl) pe_str)))
          (pss_one (ps_aug (i := 2) scWordsOf.nd rfl (.inl rfl) (pv 3) ip_addS)))))
      (pss_one (ps_ret (pe_ifExp (pt_truth (pv 2) (by intro _; rfl)) (pe_op op_cat (pv 1) (pe_lst (pa_cons (pv 2) pa_nil))) (pv 1)))))), ?_⟩
    have hsz := sizeLine_eq
    refine ⟨(by show 0 ≤ sizeLine; exact Nat.zero_le _), fun W hW => ?_⟩
    have s0 := Same.new (o := .lst []) (Same.refl H) hW
    refine ⟨_, rfl, x, rfl, ?_⟩
    refine for_it walk_str (fun i σ H' => ∃ (st : List Str × Str) (v3 : Option V), st = (x.cps.toList.take i).foldl wst ([], Str.empty) ∧ σ = [some (.str x), some (.ref W), some (.str st.2), v3] ∧ H' W = some (.lst (st.1.map V.str)) ∧ Same H H' ∧ st.1.length ≤ 2 * i ∧ st.2.length ≤ i)
      ⟨_, none, rfl, rfl, upd_same, s0, Nat.le_refl _, Nat.le_refl _⟩ (fun _ _ _ _ _ => trivial) ?_ ?_
    · rintro i v σ H2 H1 hi ⟨st, v3, e, rfl, eW, s1, l1, l2⟩ ⟨rfl, c, hc, rfl⟩
      have hxl : x.cps.size = x.length := rfl
      have et : (x.cps.toList.take (i + 1)).foldl wst ([], Str.empty) = wst st c := by
        rw [List.take_succ, Array.getElem?_toList, hc, e, List.foldl_append]
        rfl
      refine ⟨_, rfl, aM, mk3, rfl, .inr (M.t _), rfl, flat_mk, isMk (ch c), congrArg V.bl (in_mk (ch c)), ?_⟩
      cases q : isMk (ch c) with
      | true =>
        refine iteT ?_
        have h2 := wst_mark (s := st) q
        have goal : ∀ (zs : List V) (H3 : Hp), Same H1 H3 → zs.length ≤ 2 → st.1.map V.str ++ zs = (wend st ++ [ch c]).map V.str → ∃ (st' : List Str × Str) (v3 : Option V), st' = (x.cps.toList.take (i + 1)).foldl wst ([], Str.empty) ∧ [some (.str x), some (.ref W), some (.str Str.empty), some (.str (ch c))] = [some (.str x), some (.ref W), some (.str st'.2), v3] ∧ (upd H3 W (.lst (st.1.map V.str ++ zs))) W = some (.lst (st'.1.map V.str)) ∧ Same H (upd H3 W (.lst (st.1.map V.str ++ zs))) ∧ st'.1.length ≤ 2 * (i + 1) ∧ st'.2.length ≤ i + 1 := fun zs H3 s3 hz ez => by
          refine ⟨(wend st ++ [ch c], Str.empty), some (.str (ch c)), by rw [et, h2], rfl, by rw [upd_same, ez], same_J (H := H) hW _ _ _ (s1.trans s3) (s3 _ _ eW), ?_, Nat.zero_le _⟩
          have := congrArg List.length ez
          simp only [List.length_append, List.length_map] at this
          show (wend st ++ [ch c]).length ≤ _
          rw [List.length_append]
          omega
        refine ⟨_, rfl, .inl ⟨rfl, _, SqL.of eW⟩, _, rfl, ((st.2.length : Int) != 0), ⟨by omega, rfl⟩, ?_⟩
        refine ite2 (fun hk => ?_) (fun hk => ?_)
        · have hne : st.2 ≠ Str.empty := fun z => by rw [z] at hk; revert hk; decide
          refine ⟨_, rfl, _, rfl, (by show 2 ≤ sizeLine; omega), fun b hb => ⟨W, b, _, _, rfl, rfl, (Same.new (Same.refl H1) hb) _ _ eW, upd_same, (by simp only [List.length_map, List.length_cons, List.length_nil]; omega), ?_⟩⟩
          exact goal _ _ (Same.new (Same.refl H1) hb) (by simp) (by unfold wend; rw [if_neg hne]; simp; rfl)
        · have he : st.2 = Str.empty := by
            have : st.2.length = 0 := by simpa using hk
            exact ext_l (List.length_eq_zero_iff.mp (by rw [len_toList]; exact this))
          refine ⟨_, rfl, (by show 1 ≤ sizeLine; omega), fun b hb => ⟨W, b, _, _, rfl, rfl, (Same.new (Same.refl H1) hb) _ _ eW, upd_same, (by simp only [List.length_map, List.length_cons, List.length_nil]; omega), ?_⟩⟩
          exact goal _ _ (Same.new (Same.refl H1) hb) (by simp) (by unfold wend; rw [if_pos he]; simp; rfl)
      | false =>
        refine iteF ?_
        have h2 : wst st c = (st.1, st.2 ++ ch c) := by
          unfold wst
          rw [if_neg (by rw [q]; exact Bool.false_ne_true)]
        have hx2 : i < x.length := hi
        refine ⟨_, rfl, _, rfl, st.2, ch c, rfl, rfl, (by show st.2.length + 1 ≤ sizeLine; omega), ?_⟩
        refine ⟨wst st c, some (.str (ch c)), et.symm, by rw [h2]; rfl, by rw [h2]; exact eW, s1, by rw [h2]; show st.1.length ≤ _; omega, by rw [h2]; show (st.2 ++ ch c).length ≤ _; rw [app_len]; show st.2.length + 1 ≤ _; omega⟩
    · rintro σ H1 ⟨st, v3, e, rfl, eW, s1, l1, l2⟩
      have hx2 : x.cps.size = x.length := rfl
      have ew : wrun x = wend st := by
        unfold wrun
        rw [e, show x.cps.toList.take x.cps.size = x.cps.toList from List.take_of_length_le (by simp)]
      refine ⟨_, rfl, ((st.2.length : Int) != 0), ⟨by omega, rfl⟩, ?_⟩
      refine ite2 (fun hk => ?_) (fun hk => ?_)
      · have hne : st.2 ≠ Str.empty := fun z => by rw [z] at hk; revert hk; decide
        refine ⟨_, rfl, _, rfl, (by show 1 ≤ sizeLine; omega), fun b hb => ⟨W, b, _, _, rfl, rfl, (Same.new (Same.refl H1) hb) _ _ eW, upd_same, (by simp only [List.length_map, List.length_cons, List.length_nil]; omega), fun p hp => ?_⟩⟩
        have sb := Same.new (o := .lst [.str st.2]) (Same.refl H1) hb
        refine k _ _ ((s1.trans sb).trans (Same.new (Same.refl _) hp)) (Same.free (s1.trans sb) hp) ?_
        rw [upd_same, ew]
        unfold wend
        rw [if_neg hne]
        simp
      · have he : st.2 = Str.empty := by
          have : st.2.length = 0 := by simpa using hk
          exact ext_l (List.length_eq_zero_iff.mp (by rw [len_toList]; exact this))
        refine ⟨_, rfl, k _ _ s1 hW ?_⟩
        rw [eW, ew]
        unfold wend
        rw [if_pos he]
end
end K1
set_option Elab.async false
set_option linter.all false
set_option maxRecDepth 100000
set_option maxHeartbeats 2000000
namespace K1
open PySem PySem.Spec PyProof.Rows L2
open PySem.W (EachIs)
abbrev sTreeOf : Stmt := topS 48
abbrev nTreeOf : List Str := ["words", "waiting", "parts", "wanted", "at", "word", "made"]
def wd1 : G → Nat
  | .t qs => qs.length
  | _ => 1
def wds (gs : List G) : Nat := (gs.map wd1).sum
def wdw (w : List (List G)) : Nat := (w.map wds).sum
theorem wds_app (a b : List G) : wds (a ++ b) = wds a + wds b := by simp [wds]
theorem wdw_app (a b : List (List G)) : wdw (a ++ b) = wdw a + wdw b := by simp [wdw]
theorem wds_one (g : G) : wds [g] = wd1 g := by simp [wds]
theorem wdw_one (g : List G) : wdw [g] = wds g := by simp [wdw]
theorem wds_len : ∀ gs : List G, (∀ g ∈ gs, shp g = true) → gs.length ≤ wds gs
  | [], _ => Nat.zero_le _
  | g :: gs, h => by
    have h1 := wds_len gs fun q hq => h q (List.mem_cons_of_mem _ hq)
    have h2 : 1 ≤ wd1 g := by
      rcases shp_cases (h g List.mem_cons_self) with ⟨y, rfl⟩ | ⟨y, rs, rfl, hr⟩
      · exact Nat.le_refl 1
      · show 1 ≤ (G.s y :: rs).length
        simp
    rw [show wds (g :: gs) = wd1 g + wds gs by simp [wds], List.length_cons]
    omega
/-- what holds of the parser's state -/
structure PIv (i : Nat) (s : PSt) : Prop where
  p : s.parts.length ≤ i
  w : s.wait.length ≤ i
  pw : ∀ ps ∈ s.wait, ps.length ≤ i
  sp : ∀ g ∈ s.parts, shp g = true
  sw : ∀ ps ∈ s.wait, ∀ g ∈ ps, shp g = true
  m : wds s.parts + wdw s.wait ≤ i
theorem PIv.init : PIv 0 ⟨[], [], true⟩ := ⟨Nat.le_refl _, Nat.le_refl _, by simp, by simp, by simp, Nat.le_refl _⟩
theorem leaf_wd (x : Str) : wd1 (leafG x) = 1 := by
  unfold leafG
  split <;> rfl
theorem inL_last {K : PySem.W.Frag} {H : Hp} {g : G} : ∀ {gs : List G} {xs : List V}, InL K H xs (gs ++ [g]) → ∃ xs0 y, xs = xs0 ++ [y] ∧ InL K H xs0 gs ∧ In K H y g
  | [], _, .cons h .nil => ⟨[], _, rfl, .nil, h⟩
  | _ :: gs, _, .cons h t => by
    obtain ⟨xs0, y, rfl, h1, h2⟩ := inL_last t
    exact ⟨_ :: xs0, y, rfl, .cons h h1, h2⟩
theorem leaf_shp (x : Str) : shp (leafG x) = true := by
  unfold leafG
  split
  · rw [shp]
  · rw [shp_t]
    rfl
theorem last_app {α : Type} {l : List α} {a : α} (h : l.getLast? = some a) : l = l.dropLast ++ [a] := by
  rw [List.getLast?_eq_some_iff] at h
  obtain ⟨ys, rfl⟩ := h
  simp
theorem PIv.step {i : Nat} {s s' : PSt} {pv : Option Str} {x : Str} (h : PIv i s) (e : pst pv s x = some s') : PIv (i + 1) s' := by
  unfold pst at e
  split at e
  · cases e
    refine ⟨by have := h.p; simp; omega, by have := h.w; show s.wait.length ≤ _; omega, fun ps hp => by have := h.pw ps hp; omega, fun g hg => ?_, h.sw, by have := h.m; show wds (s.parts ++ [leafG x]) + wdw s.wait ≤ _; rw [wds_app, wds_one, leaf_wd]; omega⟩
    rcases List.mem_append.mp hg with hg | hg
    · exact h.sp g hg
    · rw [List.mem_singleton.mp hg]
      exact leaf_shp x
  split at e
  · cases e
    refine ⟨by simp, by have := h.w; simp; omega, fun ps hp => ?_, by simp, fun ps hp g hg => ?_, by have := h.m; show wds [] + wdw (s.wait ++ [s.parts]) ≤ _; rw [wdw_app, wdw_one]; simp [wds]; simp [wds] at this; omega⟩
    · rcases List.mem_append.mp hp with hp | hp
      · have := h.pw ps hp
        omega
      · rw [List.mem_singleton.mp hp]
        have := h.p
        omega
    · rcases List.mem_append.mp hp with hp | hp
      · exact h.sw ps hp g hg
      · rw [List.mem_singleton.mp hp] at hg
        exact h.sp g hg
  split at e
  · cases e
    exact ⟨by have := h.p; show s.parts.length ≤ _; omega, by have := h.w; show s.wait.length ≤ _; omega, fun ps hp => by have := h.pw ps hp; omega, h.sp, h.sw, by have := h.m; show wds s.parts + wdw s.wait ≤ _; omega⟩
  split at e
  · cases q : s.wait.getLast? with
    | none => rw [q] at e; cases e
    | some ps =>
      rw [q] at e
      simp only at e
      have hm : ps ∈ s.wait := List.mem_of_getLast? q
      cases q2 : pclose ps s.parts with
      | none => rw [q2] at e; cases e
      | some qs' =>
        rw [q2] at e
        cases e
        unfold pclose at q2
        split at q2
        · next qs ql =>
          cases q2
          have hl := last_app ql
          have hlen := congrArg List.length hl
          simp only [List.length_append, List.length_singleton] at hlen
          have := h.pw ps hm
          refine ⟨by simp only [List.length_append, List.length_singleton]; omega, by have := h.w; simp; omega, fun p hp => by have := h.pw p (List.dropLast_subset _ hp); omega, fun g hg => ?_, fun p hp => h.sw p (List.dropLast_subset _ hp), ?_⟩
          rotate_left
          · have h1 := h.m
            have h2 := wds_len _ h.sp
            have h3 := congrArg wdw (last_app q)
            have h4 := congrArg wds hl
            rw [wdw_app, wdw_one] at h3
            rw [wds_app, wds_one] at h4
            show wds (ps.dropLast ++ [.t (qs ++ s.parts)]) + wdw s.wait.dropLast ≤ _
            rw [wds_app, wds_one]
            show wds ps.dropLast + (qs ++ s.parts).length + _ ≤ _
            have h5 : wd1 (.t qs) = qs.length := rfl
            rw [List.length_append]
            omega
          rcases List.mem_append.mp hg with hg | hg
          · exact h.sw ps hm g (List.dropLast_subset _ hg)
          · rw [List.mem_singleton.mp hg]
            have sh := h.sw ps hm (.t qs) (List.mem_of_getLast? ql)
            rcases shp_cases sh with ⟨y, e⟩ | ⟨y, rs, e, hr⟩
            · cases e
            · cases e
              show shp (.t (.s y :: (rs ++ s.parts))) = true
              rw [shp_t, List.all_eq_true]
              intro p hp
              rcases List.mem_append.mp hp with hp | hp
              · exact hr p hp
              · exact h.sp p hp
        · cases q2
  · cases e
/-- lists that wait stand at these places -/
inductive RL (K : PySem.W.Frag) (H : Hp) : List Addr → List (List G) → Prop
  | nil : RL K H [] []
  | cons {r : Addr} {xs : List V} {gs : List G} {rs : List Addr} {w : List (List G)} (e : H r = some (.lst xs)) (q : InL K H xs gs) (t : RL K H rs w) : RL K H (r :: rs) (gs :: w)
theorem RL.snoc {K : PySem.W.Frag} {H : Hp} {r : Addr} {xs : List V} {gs : List G} (e : H r = some (.lst xs)) (q : InL K H xs gs) : ∀ {rs : List Addr} {w : List (List G)}, RL K H rs w → RL K H (rs ++ [r]) (w ++ [gs])
  | _, _, .nil => .cons e q .nil
  | _, _, .cons e' q' t => .cons e' q' (RL.snoc e q t)
theorem RL.last {K : PySem.W.Frag} {H : Hp} {gs : List G} : ∀ {w : List (List G)} {rs : List Addr}, RL K H rs (w ++ [gs]) → ∃ (rs' : List Addr) (r : Addr) (xs : List V), rs = rs' ++ [r] ∧ H r = some (.lst xs) ∧ InL K H xs gs ∧ RL K H rs' w
  | [], _, .cons e q .nil => ⟨[], _, _, rfl, e, q, .nil⟩
  | _ :: w, _, .cons e q t => by
    obtain ⟨rs', r, xs, rfl, h1, h2, h3⟩ := RL.last t
    exact ⟨_ :: rs', r, xs, rfl, h1, h2, .cons e q h3⟩
theorem RL.len {K : PySem.W.Frag} {H : Hp} : ∀ {w : List (List G)} {rs : List Addr}, RL K H rs w → rs.length = w.length
  | _, _, .nil => rfl
  | _, _, .cons _ _ t => by simp [RL.len t]
/-- the heap changed elsewhere, tuples stand -/
theorem RL.mono {K : PySem.W.Frag} {H H' : Hp} (s : TupK H H') : ∀ {w : List (List G)} {rs : List Addr}, RL K H rs w → (∀ r ∈ rs, ∀ o, H r = some o → H' r = some o) → (∀ ps ∈ w, ∀ g ∈ ps, shp g = true) → RL K H' rs w
  | _, _, .nil, _, _ => .nil
  | _, _, .cons e q t, h, sh => .cons (h _ List.mem_cons_self _ e) (inL_tk s _ _ (sh _ List.mem_cons_self) q) (RL.mono s t (fun r hr => h r (List.mem_cons_of_mem _ hr)) fun p hp => sh p (List.mem_cons_of_mem _ hp))
theorem ite_sk {c : Bool} {A U T : Prop} (h1 : c = true → U → A) (hU : U) : if c = true then A else (if false = true then T else U) := by
  cases c with
  | true => exact h1 rfl hU
  | false => exact hU
def spTreeOf (K : PySem.W.Frag) : Sp := fun vs H Q _ => ∃ (a : Addr) (g : G), vs = [.ref a] ∧ H a = some (.lst ((toks g).map V.str)) ∧ gok g = true ∧ (toks g).length ≤ 100000 ∧ ∀ v H', Same H H' → In K H' v g → Q v H'
/-- what stands while it is parsed -/
structure TI (K : PySem.W.Frag) (H : Hp) (Wa Pa : Addr) (rs : List Addr) (s : PSt) (H' : Hp) : Prop where
  sm : Same H H'
  hW : H Wa = none
  hP : H Pa = none
  hR : ∀ r ∈ rs, H r = none
  eW : H' Wa = some (.lst (rs.map V.ref))
  eP : ∃ xs, H' Pa = some (.lst xs) ∧ InL K H' xs s.parts
  eR : RL K H' rs s.wait
  nWP : Wa ≠ Pa
  nW : Wa ∉ rs
  nP : Pa ∉ rs
  nd : rs.Nodup
theorem RL.same {K : PySem.W.Frag} {H H' : Hp} (s : Same H H') : ∀ {w : List (List G)} {rs : List Addr}, RL K H rs w → RL K H' rs w
  | _, _, .nil => .nil
  | _, _, .cons e q t => .cons (s _ _ e) (q.same s) (RL.same s t)
theorem RL.mem {K : PySem.W.Frag} {H : Hp} {r : Addr} : ∀ {w : List (List G)} {rs : List Addr}, RL K H rs w → r ∈ rs → ∃ xs, H r = some (.lst xs)
  | _, _, .cons e q t, h => by
    rcases List.mem_cons.mp h with rfl | h
    · exact ⟨_, e⟩
    · exact RL.mem t h
theorem TI.same {K : PySem.W.Frag} {H H' H2 : Hp} {Wa Pa : Addr} {rs : List Addr} {s : PSt} (J : TI K H Wa Pa rs s H') (e : Same H' H2) : TI K H Wa Pa rs s H2 := by
  obtain ⟨xs, h1, h2⟩ := J.eP
  exact ⟨J.sm.trans e, J.hW, J.hP, J.hR, e _ _ J.eW, ⟨xs, e _ _ h1, h2.same e⟩, J.eR.same e, J.nWP, J.nW, J.nP, J.nd⟩
theorem tk_refl {H : Hp} : TupK H H := fun _ _ h _ => h
theorem TI.put {K : PySem.W.Frag} {H H3 : Hp} {Wa Pa : Addr} {rs : List Addr} {s : PSt} (J : TI K H Wa Pa rs s H3) {ys : List V} {gs : List G} (b : Bool) (hq : InL K H3 ys gs) (sh : ∀ g ∈ gs, shp g = true) (sw : ∀ ps ∈ s.wait, ∀ g ∈ ps, shp g = true) : TI K H Wa Pa rs ⟨s.wait, gs, b⟩ (upd H3 Pa (.lst ys)) := by
  obtain ⟨xs, h1, h2⟩ := J.eP
  have tk : TupK H3 (upd H3 Pa (.lst ys)) := TupK.off tk_refl h1
  refine ⟨same_J (H := H) J.hP _ _ _ J.sm h1, J.hW, J.hP, J.hR, ?_, ⟨ys, upd_same, inL_tk tk _ _ sh hq⟩, J.eR.mono tk (fun r hr o e => ?_) sw, J.nWP, J.nW, J.nP, J.nd⟩
  · rw [upd_ne J.nWP]
    exact J.eW
  · rw [upd_ne (show _ ≠ Pa from fun z => J.nP (by rw [← z]; exact hr))]
    exact e
theorem TI.open {K : PySem.W.Frag} {H H3 : Hp} {Wa Pa Pb : Addr} {rs : List Addr} {s : PSt} (J : TI K H Wa Pa rs s H3) (sp : ∀ g ∈ s.parts, shp g = true) (sw : ∀ ps ∈ s.wait, ∀ g ∈ ps, shp g = true) (hb : (upd H3 Wa (.lst (rs.map V.ref ++ [.ref Pa]))) Pb = none) (b : Bool) :
    TI K H Wa Pb (rs ++ [Pa]) ⟨s.wait ++ [s.parts], [], b⟩ (upd (upd H3 Wa (.lst (rs.map V.ref ++ [.ref Pa]))) Pb (.lst [])) := by
  obtain ⟨xs, h1, h2⟩ := J.eP
  have tk : TupK H3 (upd H3 Wa (.lst (rs.map V.ref ++ [.ref Pa]))) := TupK.off tk_refl J.eW
  have sN := Same.new (o := .lst []) (Same.refl (upd H3 Wa (.lst (rs.map V.ref ++ [.ref Pa])))) hb
  have sm1 : Same H (upd H3 Wa (.lst (rs.map V.ref ++ [.ref Pa]))) := same_J (H := H) J.hW _ _ _ J.sm J.eW
  have hbW : Pb ≠ Wa := fun z => by rw [z, upd_same] at hb; cases hb
  rw [upd_ne hbW] at hb
  have hbP : Pb ≠ Pa := fun z => by rw [z, h1] at hb; cases hb
  have e1 : (upd H3 Wa (.lst (rs.map V.ref ++ [.ref Pa]))) Pa = some (.lst xs) := by rw [upd_ne (Ne.symm J.nWP)]; exact h1
  have r1 : RL K (upd H3 Wa (.lst (rs.map V.ref ++ [.ref Pa]))) (rs ++ [Pa]) (s.wait ++ [s.parts]) := RL.snoc e1 (inL_tk tk _ _ sp h2) (J.eR.mono tk (fun r hr o e => by rw [upd_ne (show r ≠ Wa from fun z => J.nW (by rw [← z]; exact hr))]; exact e) sw)
  refine ⟨sm1.trans sN, J.hW, ?_, fun r hr => ?_, ?_, ⟨[], upd_same, .nil⟩, r1.same sN, Ne.symm hbW, ?_, ?_, ?_⟩
  · cases q : H Pb with
    | none => rfl
    | some o => rw [J.sm _ _ q] at hb; cases hb
  · rcases List.mem_append.mp hr with hr | hr
    · exact J.hR r hr
    · rw [List.mem_singleton.mp hr]
      exact J.hP
  · rw [upd_ne (Ne.symm hbW), upd_same]
    simp
  · intro hm
    rcases List.mem_append.mp hm with hm | hm
    · exact J.nW hm
    · exact J.nWP (List.mem_singleton.mp hm)
  · intro hm
    rcases List.mem_append.mp hm with hm | hm
    · obtain ⟨ys, e⟩ := J.eR.mem hm
      rw [e] at hb
      cases hb
    · exact hbP (List.mem_singleton.mp hm)
  · refine List.nodup_append.mpr ⟨J.nd, by simp, fun a ha b hb' => ?_⟩
    rw [List.mem_singleton.mp hb']
    exact fun z => J.nP (by rw [← z]; exact ha)
theorem TI.pop {K : PySem.W.Frag} {H H3 : Hp} {Wa Pa r : Addr} {rs : List Addr} {w : List (List G)} {ps made : List G} {xr : List V} {b : Bool} (J : TI K H Wa Pa (rs ++ [r]) ⟨w ++ [ps], made, b⟩ H3) (sw : ∀ ps ∈ w, ∀ g ∈ ps, shp g = true) (sp : ∀ g ∈ ps, shp g = true) (er : H3 r = some (.lst xr)) (qr : InL K H3 xr ps) (R : RL K H3 rs w) :
    TI K H Wa r rs ⟨w, ps, b⟩ (upd H3 Wa (.lst (rs.map V.ref))) := by
  have tk : TupK H3 (upd H3 Wa (.lst (rs.map V.ref))) := TupK.off tk_refl J.eW
  have nd := List.nodup_append.mp J.nd
  have rW : r ≠ Wa := fun z => J.nW (by rw [z]; simp)
  refine ⟨same_J (H := H) J.hW _ _ _ J.sm J.eW, J.hW, J.hR r (by simp), fun q hq => J.hR q (by simp [hq]), upd_same, ⟨xr, by rw [upd_ne rW]; exact er, inL_tk tk _ _ sp qr⟩, R.mono tk (fun q hq o e => by rw [upd_ne (fun z => J.nW (by rw [← z]; simp [hq]))]; exact e) sw, Ne.symm rW, fun hm => J.nW (by simp [hm]), fun hm => nd.2.2 r hm r (by simp) rfl, nd.1⟩
theorem gap_fine {x : Str} (h : gapB x = true) : x.length ≤ 10 ∧ PyData.strOk x = true := by
  obtain ⟨h1, h2⟩ := Bool.and_eq_true_iff.mp h
  obtain ⟨h3, h4⟩ := Bool.and_eq_true_iff.mp h2
  refine ⟨by have := (of_decide_eq_true h1).2; omega, ?_⟩
  have big : ∀ c ∈ bigs.cps.toList, c < 0x110000 := by decide +kernel
  show x.cps.all (· < 0x110000) = true
  rw [Array.all_eq_true_iff_forall_mem]
  intro c hc
  have hc : c ∈ x.cps.toList := by simpa using hc
  rw [decide_eq_true_iff]
  cases e : x.cps.toList with
  | nil => rw [e] at hc; cases hc
  | cons a r =>
    rw [e] at hc h3 h4
    rcases List.mem_cons.mp hc with rfl | hc
    · exact big _ (of_decide_eq_true h3)
    · have := List.all_eq_true.mp h4 c hc
      unfold isLow at this
      have := of_decide_eq_true this
      omega
/-- a word is a name, a gap or a mark -/
def Tok (x : Str) : Prop := nameB x = true ∨ gapB x = true ∨ isMk x = true
theorem sep_ok : ∀ {l : List (List Str)}, (∀ a ∈ l, ∀ x ∈ a, Tok x) → ∀ x ∈ sepT l, Tok x
  | [], _, x, hx => by cases hx
  | [a], h, x, hx => h a List.mem_cons_self x hx
  | a :: b :: r, h, x, hx => by
    rcases List.mem_append.mp hx with hx | hx
    · exact h a List.mem_cons_self x hx
    · rcases List.mem_cons.mp hx with rfl | hx
      · exact .inr (.inr (by decide +kernel))
      · exact sep_ok (fun c hc => h c (List.mem_cons_of_mem _ hc)) x hx
theorem toks_ok (n : Nat) : ∀ g, dp g ≤ n → gok g = true → ∀ x ∈ toks g, Tok x := by
  induction n with
  | zero =>
    intro g h
    have := dp_pos g
    omega
  | succ n ih =>
    intro g hd' hg x hx
    cases g with
    | s y =>
      rw [toks_s, List.mem_singleton] at hx
      rw [hx]
      exact .inr (.inl (by simpa [gok] using hg))
    | l ps => simp [gok] at hg
    | o d => simp [gok] at hg
    | t ps =>
      cases ps with
      | nil => simp [gok] at hg
      | cons h ps =>
        cases h with
        | s y =>
          rw [gok_t, Bool.and_eq_true_iff] at hg
          cases ps with
          | nil =>
            rw [toks_1, hd_s, List.mem_singleton] at hx
            rw [hx]
            exact .inl hg.1
          | cons p ps =>
            rw [toks_t, hd_s] at hx
            rcases List.mem_cons.mp hx with rfl | hx
            · exact .inl hg.1
            rcases List.mem_cons.mp hx with rfl | hx
            · exact .inr (.inr (by decide +kernel))
            rcases List.mem_append.mp hx with hx | hx
            · refine sep_ok (fun a ha => ?_) x hx
              obtain ⟨p', hp', rfl⟩ := List.mem_map.mp ha
              exact ih p' (dp_mem hd' (List.mem_cons_of_mem _ hp')) (List.all_eq_true.mp hg.2 p' hp')
            · rw [List.mem_singleton.mp hx]
              exact .inr (.inr (by decide +kernel))
        | _ => simp [gok] at hg
theorem tok_fine {x : Str} (h : nameB x = true ∨ gapB x = true ∨ isMk x = true) : fine (.s x) = true := by
  rcases h with h | h | h
  · exact fine_s (name_fine h)
  · exact fine_s (gap_fine h)
  · have hm : x = oP ∨ x = cP ∨ x = cm := by
      unfold isMk at h
      simpa using of_decide_eq_true h
    rcases hm with rfl | rfl | rfl <;> exact fine_s (by decide +kernel)
section
variable {P : Program} {w : World} {K : PySem.W.Frag} {mg : Str → Option Value} {base : Heap}
theorem scTreeOf : FnScope nTreeOf ["words"] (defScope sTreeOf) := ⟨rfl, rfl, rfl, by decide +kernel, rfl, by decide +kernel, by decide +kernel⟩
theorem ok_treeOf {f aM : Addr} {fd : FuncData} (F : Fun K "tree_of" "tree_of" sTreeOf f fd) (M : Mks K mg aM) (DG : Df P w K mg base C8.CX0 "is_gap" 2 ["thing"] (spGap K)) (T : Ct mg) (gE : mg "enumerate" = none) : FnOk P w K mg base C8.CX0 3 f fd ["words"] (spTreeOf K) := by
  refine F.ok scTreeOf (fun vs H Q E h => ?_) (fun cdv A outer s H vs Q E hr h => ?_)
  · obtain ⟨a, g, rfl, _⟩ := h
    rfl
  · obtain ⟨a, g, rfl, ea, hg, hl, k⟩ := h
    refine ⟨_, pss_cons (ps_set (i := 1) scTreeOf.nd rfl (Or.inl rfl) (pe_lst pa_nil))
      (pss_cons (ps_set (i := 2) scTreeOf.nd rfl (Or.inl rfl) (pe_lst pa_nil))
      (pss_cons (ps_set (i := 3) scTreeOf.nd rfl (Or.inl rfl) pe_bl)
      (pss_cons (ps_for PassesOwn.never rfl (pi_enum (by rfl) gE (pa_cons (pv 0) pa_nil)) (pg_tup rfl (pgs_cons (pg_name (i := 4) scTreeOf.nd rfl (Or.inl rfl)) (pgs_cons (pg_name (i := 5) scTreeOf.nd rfl (Or.inl rfl)) pgs_nil)))
        (pss_one (ps_if (PW.pt (pw_and (pt_val (pv 3)) (pw_and1 (pt_cmpR op_notIn_seq (pv 5) (pe_glob (v := .ref aM) (by rfl) M.g rfl) (by rfl)))))
          (pss_cons (ps_expr (pe_bm PySem.F.plainAttrs_list PySem.F.slot_list_append PySem.F.type_list_append mt_append (pv 2) (pa_cons (pe_ifExp (pt_val (pe_df DG hr pass0 (pa_cons (pv 5) pa_nil))) (pv 5) (pe_tup (pa_cons (pv 5) pa_nil))) pa_nil)))
            (pss_one (ps_set (i := 3) scTreeOf.nd rfl (Or.inl rfl) pe_bl)))
          (pss_one (ps_if (PW.pt (pw_and (pt_cmpR op_eq (pv 5) pe_str (nomark _)) (pw_and (pt_cmpR op_gt (pv 4) pe_int (nomark _)) (pw_and (pt_cmpR op_notIn_seq (pe_ix ix_list (pv 0) (pe_op op_sub (pv 4) pe_int) (fun _ _ => rfl)) (pe_glob (v := .ref aM) (by rfl) M.g rfl) (by rfl)) (pw_and1 (pt_not (pt_val (pe_df DG hr pass0 (pa_cons (pe_ix ix_list (pv 0) (pe_op op_sub (pv 4) pe_int) (fun _ _ => rfl)) pa_nil)))))))))
            (pss_cons (ps_expr (pe_bm PySem.F.plainAttrs_list PySem.F.slot_list_append PySem.F.type_list_append mt_append (pv 1) (pa_cons (pv 2) pa_nil)))
              (pss_cons (ps_set (i := 2) scTreeOf.nd rfl (Or.inl rfl) (pe_lst pa_nil))
              (pss_one (ps_set (i := 3) scTreeOf.nd rfl (Or.inl rfl) pe_bl))))
            (pss_one (ps_if (PW.pt (pw_and (pt_cmpR op_eq (pv 5) pe_str (nomark _)) (pw_and (pt_not (pt_val (pv 3))) (pw_and1 (pt_truth (pv 1) (by intro _; rfl))))))
              (pss_one (ps_set (i := 3) scTreeOf.nd rfl (Or.inl rfl) pe_bl))
              (pss_one (ps_if (PW.pt (pw_and (pt_cmpR op_eq (pv 5) pe_str (nomark _)) (pw_and (pt_not (pt_val (pv 3))) (pw_and1 (pt_truth (pv 1) (by intro _; rfl))))))
                (pss_cons (ps_set (i := 6) scTreeOf.nd rfl (Or.inl rfl) (pe_callTy call_tuple_of (by rfl) T.tuple boot_tuple (pa_cons (pv 2) pa_nil)))
                  (pss_cons (ps_set (i := 2) scTreeOf.nd rfl (Or.inl rfl) (pe_bm0 PySem.F.plainAttrs_list PySem.F.slot_list_pop PySem.F.type_list_pop mt_pop (pv 1)))
                  (pss_one (ps_expr (pe_bm PySem.F.plainAttrs_list PySem.F.slot_list_append PySem.F.type_list_append mt_append (pv 2) (pa_cons (pe_op op_catT (pe_bm0 PySem.F.plainAttrs_list PySem.F.slot_list_pop PySem.F.type_list_pop mt_pop (pv 2)) (pv 6)) pa_nil))))))
                (pss_one (ps_ret pe_non)))))))))))
      (pss_one (ps_ret (pe_ifExp (PW.pt (pw_and (pt_cmpR op_eq (pe_callB call_len_seq (by rfl) T.len (by decide +kernel) (pa_cons (pv 2) pa_nil)) pe_int (nomark _)) (pw_and (pt_not (pt_truth (pv 1) (by intro _; rfl))) (pw_and1 (pt_not (pt_val (pv 3))))))) (pe_ix ix_list (pv 2) pe_int (fun _ _ => rfl)) pe_non)))))), ?_⟩
    have hsz := sizeLine_eq
    refine ⟨(by show 0 ≤ sizeLine; exact Nat.zero_le _), fun Wa hW => ?_⟩
    have s0 := Same.new (o := .lst []) (Same.refl H) hW
    refine ⟨(by show 0 ≤ sizeLine; exact Nat.zero_le _), fun Pa hP => ?_⟩
    have s1 := Same.new (o := .lst []) s0 hP
    have hP0 : H Pa = none := Same.free s0 hP
    have nWP : Wa ≠ Pa := fun z => by rw [← z, upd_same] at hP; cases hP
    refine ⟨_, rfl, a, _, rfl, SqL.of (s1 _ _ ea), ?_⟩
    have I0 : TI K H Wa Pa [] ⟨[], [], true⟩ _ := ⟨s1, hW, hP0, by simp, by rw [upd_ne nWP, upd_same]; rfl, ⟨[], upd_same, .nil⟩, .nil, nWP, by simp, by simp, List.nodup_nil⟩
    refine for_it (walk_enum (xs := (toks g).map V.str)) (fun i σ H' => ∃ (s : PSt) (Pa : Addr) (rs : List Addr) (v4 v5 v6 : Option V), ((toks g).take i).foldl pf (some (⟨[], [], true⟩, none)) = some (s, ((toks g).take i).getLast?) ∧ PIv i s ∧ σ = [some (.ref a), some (.ref Wa), some (.ref Pa), some (.bl s.want), v4, v5, v6] ∧ TI K H Wa Pa rs s H')
      ⟨_, Pa, [], none, none, none, rfl, PIv.init, rfl, I0⟩ (fun i σ H' _ ⟨_, _, _, _, _, _, _, _, _, J⟩ => SqL.of (J.sm _ _ ea)) ?_ ?_
    · rintro i v σ H1 H2 hi ⟨s, Pa, rs, v4, v5, v6, hs, iv, rfl, J⟩ ⟨Tp, x1, x2, rfl, hT, rfl, e1, e2⟩
      cases e1
      have hi' : i < (toks g).length := by simpa using hi
      obtain ⟨x, hx, rfl⟩ : ∃ x : Str, (toks g)[i]? = some x ∧ x2 = .str x := by
        change ((toks g).map V.str)[i]? = some x2 at e2
        rw [List.getElem?_map, List.getElem?_eq_getElem hi'] at e2
        exact ⟨_, List.getElem?_eq_getElem hi', (Option.some.inj e2).symm⟩
      obtain ⟨s', hs'⟩ := run_take hg (i + 1)
      have et : (toks g).take (i + 1) = (toks g).take i ++ [x] := by rw [List.take_succ, hx]; rfl
      have hst : pst ((toks g).take i).getLast? s x = some s' := by
        rw [et, List.foldl_append, hs, List.foldl_cons, List.foldl_nil] at hs'
        change (pst ((toks g).take i).getLast? s x).map _ = _ at hs'
        cases q : pst ((toks g).take i).getLast? s x with
        | none => rw [q] at hs'; cases hs'
        | some s2 =>
          rw [q] at hs'
          have := congrArg Prod.fst (Option.some.inj hs')
          exact congrArg some this
      have iv' := iv.step hst
      have hs0 := hs
      clear hs
      have sT := Same.new (o := .tup [.int (i : Nat), .str x]) (Same.refl H1) hT
      have J1 := J.same sT
      have hrun : ((toks g).take (i + 1)).foldl pf (some (⟨[], [], true⟩, none)) = some (s', ((toks g).take (i + 1)).getLast?) := by
        obtain ⟨s2, e2⟩ := run_take hg (i + 1)
        rw [e2]
        rw [et, List.foldl_append, hs0, List.foldl_cons, List.foldl_nil] at e2
        change (pst ((toks g).take i).getLast? s x).map _ = _ at e2
        rw [hst] at e2
        have := congrArg Prod.fst (Option.some.inj e2)
        exact congrArg some (Prod.ext this.symm rfl)
      have hxm : x ∈ toks g := List.mem_of_getElem? hx
      have htok := toks_ok _ g (Nat.le_refl _) hg x hxm
      have hfine : ∀ y, y ∈ toks g → fine (.s y) = true := fun y hy => tok_fine (toks_ok _ g (Nat.le_refl _) hg y hy)
      have inmk : ∀ y : Str, V.bl (!inV (.str y) mk3) = V.bl (!isMk y) := fun y => congrArg (fun b => V.bl (!b)) (in_mk y)
      refine ⟨Tp, _, rfl, SqT.of upd_same, rfl, _, _, rfl, _, _, rfl, rfl, ?_⟩
      obtain ⟨xs, eP, qP⟩ := J1.eP
      have lP : xs.length ≤ i := by rw [qP.len]; exact iv.p
      unfold pst at hst
      by_cases c1 : s.want = true ∧ isMk x = false
      · rw [if_pos c1] at hst
        obtain rfl := (Option.some.inj hst).symm
        refine ⟨_, rfl, s.want, rfl, iteT_ c1.1 ?_⟩
        refine ⟨_, rfl, aM, mk3, rfl, .inr (M.t _), rfl, flat_mk, !isMk x, inmk x, iteT_ (by rw [c1.2]; rfl) ?_⟩
        refine ⟨_, rfl, .inl ⟨rfl, _, SqL.of eP⟩, ?_⟩
        refine ⟨_, rfl, .str x, .s x, rfl, .s x, hfine x hxm, fun H3 s3 => ⟨gapB x, rfl, ?_⟩⟩
        have J3 := J1.same s3
        refine ite2 (fun h => ?_) (fun h => ?_)
        · refine ⟨_, rfl, Pa, xs, _, rfl, rfl, s3 _ _ eP, by omega, ?_⟩
          refine ⟨_, Pa, rs, some (.int (i : Nat)), some (.str x), v6, hrun, iv', rfl, J3.put false ?_ iv'.sp iv.sw⟩
          rw [leaf_gap h]
          exact (qP.same s3).app (.cons (.s x) .nil)
        · refine ⟨_, rfl, (by show 1 ≤ sizeLine; omega), fun tq htq => ?_⟩
          have s4 := Same.new (o := .tup [.str x]) (Same.refl H3) htq
          refine ⟨Pa, xs, _, rfl, rfl, s4 _ _ (s3 _ _ eP), by omega, ?_⟩
          refine ⟨_, Pa, rs, some (.int (i : Nat)), some (.str x), v6, hrun, iv', rfl, (J3.same s4).put false ?_ iv'.sp iv.sw⟩
          rw [show leafG x = .t [.s x] from if_neg h]
          exact ((qP.same s3).same s4).app (.cons (.t (SqT.of upd_same) (.cons (.s x) .nil)) .nil)
      · rw [if_neg c1] at hst
        refine ⟨_, rfl, s.want, rfl, ite_sk (fun hw u => ⟨_, rfl, aM, mk3, rfl, .inr (M.t _), rfl, flat_mk, !isMk x, inmk x, iteF_ (fun z => c1 ⟨hw, by simpa using z⟩) u⟩) ?_⟩
        by_cases c2 : x = oP ∧ (∃ y, ((toks g).take i).getLast? = some y ∧ isMk y = false ∧ gapB y = false)
        · rw [if_pos c2] at hst
          obtain rfl := (Option.some.inj hst).symm
          obtain ⟨rfl, y, ey, my, gy⟩ := c2
          have hi0 : 0 < i := by
            rcases Nat.eq_zero_or_pos i with z | z
            · rw [z] at ey
              cases ey
            · exact z
          have ey' : (toks g)[i - 1]? = some y := by
            rw [List.getLast?_eq_getElem?, List.length_take, Nat.min_eq_left (by omega), List.getElem?_take_of_lt (by omega)] at ey
            exact ey
          have hat : atI ((toks g).map V.str) ((i : Int) - 1) = some (.str y) := by
            rw [show (i : Int) - 1 = ((i - 1 : Nat) : Int) by omega]
            refine atI_nat ?_
            rw [List.getElem?_map, ey']
            rfl
          have hym : y ∈ toks g := List.mem_of_getElem? ey'
          have sa : SqL K _ a ((toks g).map V.str) := SqL.of (J1.sm _ _ ea)
          refine ⟨_, rfl, rfl, _, rfl, iteT_ (by decide +kernel) ?_⟩
          refine ⟨_, rfl, _, _, rfl, rfl, _, rfl, iteT_ (by simpa using hi0) ?_⟩
          refine ⟨_, rfl, _, rfl, _, _, rfl, rfl, a, _, _, _, rfl, rfl, sa, hat, aM, mk3, rfl, .inr (M.t _), rfl, flat_mk, !isMk y, inmk y, iteT_ (by rw [my]; rfl) ?_⟩
          refine ⟨_, rfl, _, rfl, _, _, rfl, rfl, a, _, _, _, rfl, rfl, sa, hat, .str y, .s y, rfl, .s y, hfine y hym, fun H3 s3 => ⟨gapB y, rfl, iteT_ (by rw [gy]; rfl) ?_⟩⟩
          have J3 := J1.same s3
          have lW : rs.length ≤ i := by rw [J3.eR.len]; exact iv.w
          refine ⟨_, rfl, .inl ⟨rfl, _, SqL.of J3.eW⟩, _, rfl, Wa, _, _, rfl, rfl, J3.eW, by rw [List.length_map]; omega, (by show 0 ≤ sizeLine; exact Nat.zero_le _), fun Pb hb => ?_⟩
          exact ⟨_, Pb, rs ++ [Pa], some (.int (i : Nat)), some (.str oP), v6, hrun, iv', rfl, J3.open iv.sp iv.sw hb true⟩
        · rw [if_neg c2] at hst
          have ne1 : decide (V.str cm = V.str (Str.ofString "(")) = false := by decide +kernel
          have ne2 : decide (V.str cP = V.str (Str.ofString "(")) = false := by decide +kernel
          have ne3 : decide (V.str cP = V.str (Str.ofString ",")) = false := by decide +kernel
          by_cases c3 : x = cm ∧ s.want = false ∧ s.wait ≠ []
          · rw [if_pos c3] at hst
            obtain rfl := (Option.some.inj hst).symm
            obtain ⟨rfl, hw, hne⟩ := c3
            have hrs : rs ≠ [] := fun z => hne (List.eq_nil_of_length_eq_zero (by rw [← J1.eR.len, z]; rfl))
            refine ⟨_, rfl, rfl, _, rfl, iteF_ (by rw [ne1]; exact Bool.false_ne_true) (iteF_ Bool.false_ne_true ?_)⟩
            refine ⟨_, rfl, rfl, _, rfl, iteT_ (by decide +kernel) ?_⟩
            refine ⟨_, rfl, s.want, rfl, iteT_ (by rw [hw]; rfl) ?_⟩
            refine ⟨_, rfl, true, .inl ⟨_, SqL.of J1.eW, by cases rs with | nil => exact absurd rfl hrs | cons a r => rfl⟩, iteT_ rfl ?_⟩
            exact ⟨_, Pa, rs, some (.int (i : Nat)), some (.str cm), v6, hrun, iv', rfl, ⟨J1.sm, J1.hW, J1.hP, J1.hR, J1.eW, J1.eP, J1.eR, J1.nWP, J1.nW, J1.nP, J1.nd⟩⟩
          · rw [if_neg c3] at hst
            by_cases c4 : x = cP ∧ s.want = false
            · rw [if_pos c4] at hst
              obtain ⟨rfl, hw⟩ := c4
              obtain ⟨w, ps, hwt⟩ : ∃ w ps, s.wait = w ++ [ps] := by
                cases q : s.wait.getLast? with
                | none => rw [q] at hst; cases hst
                | some ps => exact ⟨_, _, last_app q⟩
              obtain ⟨sw, sparts, swant⟩ := s
              simp only at hwt hw hst eP qP lP
              subst hwt
              subst hw
              rw [List.getLast?_concat] at hst
              simp only at hst
              obtain ⟨ps0, qs, rfl⟩ : ∃ ps0 qs, ps = ps0 ++ [.t qs] := by
                unfold pclose at hst
                split at hst
                · next qs ql => exact ⟨_, _, last_app ql⟩
                · cases hst
              have hs2 : s' = ⟨w, ps0 ++ [.t (qs ++ sparts)], false⟩ := by
                have := Option.some.inj (hst.symm.trans (by simp [pclose] : (pclose (ps0 ++ [G.t qs]) sparts).map (fun q => (⟨(w ++ [ps0 ++ [G.t qs]]).dropLast, q, false⟩ : PSt)) = some ⟨w, ps0 ++ [G.t (qs ++ sparts)], false⟩))
                exact this
              obtain ⟨rs', r, xr, rfl, er, qr, R⟩ := RL.last J1.eR
              have swA : ∀ ps ∈ w, ∀ g ∈ ps, shp g = true := fun ps hp => iv.sw ps (by simp [hp])
              have spA : ∀ g ∈ ps0 ++ [G.t qs], shp g = true := iv.sw _ (by simp)
              refine ⟨_, rfl, rfl, _, rfl, iteF_ (by rw [ne2]; exact Bool.false_ne_true) (iteF_ Bool.false_ne_true ?_)⟩
              refine ⟨_, rfl, rfl, _, rfl, iteF_ (by rw [ne3]; exact Bool.false_ne_true) (iteF_ Bool.false_ne_true ?_)⟩
              refine ⟨_, rfl, rfl, _, rfl, iteT_ (by decide +kernel) ?_⟩
              refine ⟨_, rfl, false, rfl, iteT_ rfl ?_⟩
              refine ⟨_, rfl, true, .inl ⟨_, SqL.of J1.eW, by rw [List.map_append]; simp⟩, iteT_ rfl ?_⟩
              refine ⟨_, rfl, Pa, xs, rfl, .inl ⟨SqL.of eP, fun tm htm => ?_⟩⟩
              have s3 := Same.new (o := .tup xs) (Same.refl _) htm
              have J3 := J1.same s3
              refine ⟨_, rfl, .inl ⟨rfl, _, SqL.of J3.eW⟩, Wa, _, .ref r, rfl, rfl, J3.eW, by simp, ?_⟩
              have J4 := J3.pop swA spA (s3 _ _ er) (qr.same s3) (R.same s3)
              have ed : ((rs' ++ [r]).map V.ref).dropLast = rs'.map V.ref := by simp
              rw [ed]
              obtain ⟨xs4, eP4, qP4⟩ := J4.eP
              obtain ⟨xs0, y, rfl, q0, qy⟩ := inL_last qP4
              have J5 := J4.put (ys := xs0) (gs := ps0) false q0 (fun g hg => spA g (by simp [hg])) swA
              have tk5 : TupK _ (upd (upd (upd (upd H1 Tp (.tup [.int (i : Nat), .str cP])) tm (.tup xs)) Wa (.lst (rs'.map V.ref))) r (.lst xs0)) := TupK.off tk_refl eP4
              have tk4 : TupK (upd (upd H1 Tp (.tup [.int (i : Nat), .str cP])) tm (.tup xs)) _ := TupK.off (o := .lst (rs'.map V.ref)) tk_refl J3.eW
              have shq := spA (.t qs) (by simp)
              have qy5 := in_tk tk5 _ _ shq qy
              have qm5 := inL_tk (tk4.trans tk5) _ _ iv.sp (qP.same s3)
              have em5 := (tk4.trans tk5).sqt (K := K) (SqT.of (upd_same : (upd (upd H1 Tp (.tup [.int (i : Nat), .str cP])) tm (.tup xs)) tm = some (.tup xs)))
              have hqs : qs ≠ [] ∧ ∃ y rs, qs = .s y :: rs := by
                rcases shp_cases shq with ⟨z, e⟩ | ⟨z, rs, e, hr⟩
                · cases e
                · cases e
                  exact ⟨by simp, z, rs, rfl⟩
              have hm1 := iv.m
              have hm2 : qs.length ≤ i := by
                have : wdw (w ++ [ps0 ++ [.t qs]]) = wdw w + (wds ps0 + qs.length) := by rw [wdw_app, wdw_one, wds_app, wds_one]; rfl
                have h2 : wds sparts + wdw (w ++ [ps0 ++ [.t qs]]) ≤ i := hm1
                omega
              cases qy5 with
              | @t tq ys _ hty qty =>
                refine ⟨_, rfl, .inl ⟨rfl, _, SqL.of eP4⟩, _, rfl, .inl ⟨rfl, _, SqL.of eP4⟩, r, _, _, rfl, rfl, eP4, by simp; rfl, ?_⟩
                rw [show (xs0 ++ [V.ref _]).dropLast = xs0 by simp]
                have lys := qty.len
                have q05 := inL_tk tk5 _ _ (fun g hg => spA g (by simp [hg])) q0
                have l0 : xs0.length ≤ i := by
                  have := iv.pw (ps0 ++ [G.t qs]) (by simp)
                  rw [q0.len]
                  simp at this
                  omega
                refine ⟨_, rfl, _, tm, _, xs, rfl, rfl, hty, em5, fun z => hqs.1 (List.eq_nil_of_length_eq_zero (by rw [← lys, z]; rfl)), by omega, fun z => ?_, fun hne p hp => ?_⟩
                · have hs0' : sparts = [] := List.eq_nil_of_length_eq_zero (by rw [← qP.len, z]; rfl)
                  refine ⟨r, xs0, _, rfl, rfl, upd_same, by omega, ?_⟩
                  subst hs2
                  refine ⟨_, r, rs', some (.int (i : Nat)), some (.str cP), some (.ref tm), hrun, iv', rfl, J5.put false ?_ iv'.sp swA⟩
                  refine q05.app (.cons ?_ .nil)
                  rw [hs0', List.append_nil]
                  exact .t hty qty
                · have s6 := Same.new (o := .tup (ys ++ xs)) (Same.refl _) hp
                  refine ⟨r, xs0, _, rfl, rfl, s6 _ _ upd_same, by omega, ?_⟩
                  subst hs2
                  refine ⟨_, r, rs', some (.int (i : Nat)), some (.str cP), some (.ref tm), hrun, iv', rfl, (J5.same s6).put false ?_ iv'.sp swA⟩
                  exact (q05.same s6).app (.cons (.t (SqT.of upd_same) ((qty.same s6).app (qm5.same s6))) .nil)
            · rw [if_neg c4] at hst
              cases hst
    · rintro σ H1 ⟨s, Pa, rs, v4, v5, v6, hs, iv, rfl, J⟩
      obtain ⟨y, ey⟩ := run_g _ g (Nat.le_refl _) hg [] [] none
      have : s = ⟨[], [g], false⟩ := by
        rw [List.length_map, List.take_length, ey] at hs
        exact (congrArg Prod.fst (Option.some.inj hs)).symm
      subst this
      obtain ⟨xs, eP, qP⟩ := J.eP
      obtain ⟨v, rfl, hv⟩ : ∃ v, xs = [v] ∧ In K H1 v g := by
        cases qP with
        | cons h t =>
          cases t
          exact ⟨_, rfl, h⟩
      have hr0 : rs = [] := List.eq_nil_of_length_eq_zero (by rw [J.eR.len]; rfl)
      subst hr0
      refine ⟨_, rfl, Pa, _, rfl, .inl (SqL.of eP), rfl, _, rfl, iteT_ (by simp) ?_⟩
      refine ⟨_, rfl, false, .inl ⟨_, SqL.of J.eW, rfl⟩, iteT_ rfl ?_⟩
      refine ⟨_, rfl, false, rfl, iteT_ rfl ?_⟩
      exact ⟨_, rfl, Pa, _, 0, v, rfl, rfl, SqL.of eP, rfl, k v H1 J.sm hv⟩
end
end K1
set_option Elab.async false
set_option linter.all false
set_option maxRecDepth 100000
set_option maxHeartbeats 2000000
namespace K1
open PySem PySem.Spec PyProof.Rows L2
open PySem.W (EachIs)
abbrev sDraftOf : Stmt := topS 49
abbrev nDraftOf : List Str := ["words", "word"]
def teDr (K : PySem.W.Frag) (aM : Addr) : TE := tOrV (tOp (rIn K false) (tVar 1) (tC (.ref aM))) (tOrV (tCall (spP K nameD) [] E0 (tCons (tVar 1) tNil)) (tCall (spGap K) [] E0 (tCons (tVar 1) tNil)))
theorem tok_ok {x : Str} (h : fine (.s x) = true) : okD (.str x) = true := by
  have h2 : x.length ≤ 10 ∧ PyData.strOk x = true := by
    rw [K1.fine] at h
    simpa using h
  exact ok_of (by show PyData.strOk x = true; exact h2.2) (by show decide (x.length ≤ 1000) = true; exact decide_eq_true (by omega)) (by simp [PyData.depth])
section
variable {P : Program} {w : World} {K : PySem.W.Frag} {mg : Str → Option Value} {base : Heap}
theorem scDraftOf : FnScope nDraftOf ["words"] (defScope sDraftOf) := ⟨rfl, rfl, rfl, by decide +kernel, rfl, by decide +kernel, by decide +kernel⟩
theorem ok_draftOf {f aM : Addr} {fd : FuncData} (F : Fun K "draft_of" "draft_of" sDraftOf f fd) (M : Mks K mg aM) (DN : Df P w K mg base CX0 "is_name" 2 ["thing"] (spP K nameD)) (DG : Df P w K mg base C8.CX0 "is_gap" 2 ["thing"] (spGap K)) (DT : Df P w K mg base C8.CX0 "tree_of" 3 ["words"] (spTreeOf K)) (T : Ct mg) : FnOk P w K mg base C8.CX0 4 f fd ["words"] (spTreeOf K) := by
  refine F.ok scDraftOf (fun vs H Q E h => ?_) (fun cdv A outer s H vs Q E hr h => ?_)
  · obtain ⟨a, g, rfl, _⟩ := h
    rfl
  · obtain ⟨a, g, rfl, ea, hg, hl, k⟩ := h
    refine ⟨_, pss_cons (ps_if (pt_not (pt_val (pe_callB (cr_all rfl) (by rfl) T.all (by decide +kernel) (pa_cons (pe_lc (own := [("word", 1)]) (g := gName 1) (tt := tYes) (te := teDr K aM) rfl scDraftOf.nd (pi_list (pv 0)) (blkOk_by (N := nDraftOf) (sc := defScope sDraftOf) (by decide +kernel)) (fun _ _ _ _ _ => pg_name (i := 1) scDraftOf.nd rfl (Or.inl rfl)) (fun _ _ _ _ _ => pts_nil)
      (fun _ _ _ _ _ => pe_or (pe_cmpR op_in_seq (pv 1) (pe_glob (v := .ref aM) (by rfl) M.g rfl) (by rfl)) (pe_or (pe_df DN hr pass0 (pa_cons (pv 1) pa_nil)) (pe_one (pe_df DG hr pass0 (pa_cons (pv 1) pa_nil)))))) pa_nil)))) (pss_one (ps_ret pe_non)) pss_nil)
      (pss_one (ps_ret (pe_df DT hr pass0 (pa_cons (pv 0) pa_nil)))), ?_⟩
    have hsz := sizeLine_eq
    refine ⟨_, rfl, a, rfl, ⟨_, SqL.of ea⟩, fun D hD => ?_⟩
    refine lc_list (K := K) (a := a) (xs := (toks g).map V.str) (fun i H' => Same H H' ∧ H' D = some (.lst (List.replicate i (V.bl true)))) ⟨Same.new (Same.refl H) hD, upd_same⟩ (fun i H' _ q => SqL.of (q.1 _ _ ea)) ?_ ?_
    · rintro i v H1 hx ⟨s1, eD⟩
      obtain ⟨x, hx', rfl⟩ : ∃ x : Str, (toks g)[i]? = some x ∧ v = .str x := by
        rw [List.getElem?_map] at hx
        cases q : (toks g)[i]? with
        | none => rw [q] at hx; cases hx
        | some x => rw [q] at hx; exact ⟨x, rfl, (Option.some.inj hx).symm⟩
      have hi : i < (toks g).length := by
        rcases Nat.lt_or_ge i (toks g).length with h | h
        · exact h
        · rw [List.getElem?_eq_none h] at hx'
          cases hx'
      have htok := toks_ok _ g (Nat.le_refl _) hg x (List.mem_of_getElem? hx')
      have hf := tok_fine htok
      have fin : ∀ H2, Same H1 H2 → ∃ acc, H2 D = some (.lst acc) ∧ acc.length < sizeLine ∧ (fun i H' => Same H H' ∧ H' D = some (.lst (List.replicate i (V.bl true)))) (i + 1) (upd H2 D (.lst (acc ++ [.bl true]))) := fun H2 s2 => by
        refine ⟨_, s2 _ _ eD, by rw [List.length_replicate]; omega, same_J (H := H) hD _ _ _ (s1.trans s2) (s2 _ _ eD), ?_⟩
        rw [upd_same, List.replicate_succ']
      refine ⟨rfl, ?_⟩
      refine ⟨_, rfl, aM, mk3, rfl, .inr (M.t _), rfl, flat_mk, isMk x, congrArg V.bl (in_mk x), ite2 (fun _ => fin H1 (Same.refl _)) (fun h1 => ?_)⟩
      refine ⟨_, rfl, .str x, .str x, rfl, .dat (.str x), tok_ok hf, fun H2 s2 => ⟨nameB x, rfl, ite2 (fun _ => fin H2 s2) (fun h2 => ?_)⟩⟩
      have hgap : gapB x = true := by
        rcases htok with h | h | h
        · exact absurd h h2
        · exact h
        · exact absurd h h1
      refine ⟨_, rfl, .str x, .s x, rfl, .s x, hf, fun H3 s3 => ?_⟩
      rw [show gapG (.s x) = gapB x from rfl, hgap]
      exact fin H3 (s2.trans s3)
    · rintro H1 ⟨s1, eD⟩
      refine ⟨D, List.replicate ((toks g).map V.str).length true, rfl, by rw [List.map_replicate]; exact SqL.of eD, true, congrArg V.bl (by simp), iteF_ (by decide) ?_⟩
      exact ⟨_, rfl, a, g, rfl, s1 _ _ ea, hg, hl, fun v H2 s2 hv => k v H2 (s1.trans s2) hv⟩
end
end K1
set_option Elab.async false
set_option linter.all false
set_option maxRecDepth 100000
set_option maxHeartbeats 2000000
namespace K1
open PySem PySem.Spec PyProof.Rows L2
open PySem.W (EachIs)
abbrev sReadTerm : Stmt := topS 50
abbrev nReadTerm : List Str := ["signs", "text", "words", "draft", "word"]
theorem sep_len : ∀ l : List (List Str), (sepT l).length ≤ (l.map fun a => a.length + 1).sum
  | [] => Nat.le_refl _
  | [a] => by simp [sepT]
  | a :: b :: r => by
    have := sep_len (b :: r)
    show (a ++ cm :: sepT (b :: r)).length ≤ _
    rw [List.length_append, List.length_cons, List.map_cons, List.sum_cons]
    omega
theorem sum_toks : ∀ ps : List G, (∀ p ∈ ps, (toks p).length + 1 ≤ 2 * sz p) → ((ps.map toks).map fun a => a.length + 1).sum ≤ 2 * (ps.map sz).sum
  | [], _ => Nat.le_refl _
  | p :: ps, h => by
    have h1 := sum_toks ps fun q hq => h q (List.mem_cons_of_mem _ hq)
    have h2 := h p List.mem_cons_self
    simp only [List.map_cons, List.sum_cons] at h1 ⊢
    omega
theorem toks_len (n : Nat) : ∀ g, dp g ≤ n → gok g = true → (toks g).length + 1 ≤ 2 * sz g := by
  induction n with
  | zero =>
    intro g h
    have := dp_pos g
    omega
  | succ n ih =>
    intro g hd' hg
    cases g with
    | s y => rw [toks_s]; simp [sz]
    | l ps => simp [gok] at hg
    | o d => simp [gok] at hg
    | t ps =>
      cases ps with
      | nil => simp [gok] at hg
      | cons h ps =>
        cases h with
        | s y =>
          rw [gok_t, Bool.and_eq_true_iff] at hg
          have hp := sum_toks ps fun p hp => ih p (dp_mem hd' (List.mem_cons_of_mem _ hp)) (List.all_eq_true.mp hg.2 p hp)
          rw [sz_t, List.map_cons, List.sum_cons, show sz (.s y) = 1 by simp [sz]]
          cases ps with
          | nil => rw [toks_1]; simp
          | cons p ps =>
            rw [toks_t]
            have := sep_len ((p :: ps).map toks)
            simp only [List.length_cons, List.length_append, List.length_nil] at this ⊢
            omega
        | _ => simp [gok] at hg
theorem sep_has {f : Str → Prop} (hc : f cm) : ∀ {l : List (List Str)}, (∀ a ∈ l, ∀ x ∈ a, f x) → ∀ x ∈ sepT l, f x
  | [], _, x, hx => by cases hx
  | [a], h, x, hx => h a List.mem_cons_self x hx
  | a :: b :: r, h, x, hx => by
    rcases List.mem_append.mp hx with hx | hx
    · exact h a List.mem_cons_self x hx
    · rcases List.mem_cons.mp hx with rfl | hx
      · exact hc
      · exact sep_has hc (fun c hc => h c (List.mem_cons_of_mem _ hc)) x hx
theorem toks_has {L : List Ln} (n : Nat) : ∀ g, dp g ≤ n → stands L g = true → ∀ x ∈ toks g, nameB x = true → (find L x).isSome = true := by
  induction n with
  | zero =>
    intro g h
    have := dp_pos g
    omega
  | succ n ih =>
    intro g hd' hg x hx
    cases g with
    | s y =>
      rw [toks_s, List.mem_singleton] at hx
      intro hn
      rw [hx] at hn
      have hg2 : gapB y = true := by simpa [stands] using hg
      rw [name_nogap hn] at hg2
      cases hg2
    | l ps => simp [stands] at hg
    | o d => simp [stands] at hg
    | t ps =>
      cases ps with
      | nil => simp [stands] at hg
      | cons h ps =>
        rw [stands_t, Bool.and_eq_true_iff] at hg
        cases h with
        | s y =>
          have hy : (find L y).isSome = true := by
            cases hf : find L y with
            | none => simp [hasParts, hf] at hg
            | some l => rfl
          cases ps with
          | nil =>
            rw [toks_1, hd_s, List.mem_singleton] at hx
            rw [hx]
            exact fun _ => hy
          | cons p ps =>
            have nm : ∀ c ∈ [oP, cP, cm], nameB c = false := by decide +kernel
            rw [toks_t, hd_s] at hx
            rcases List.mem_cons.mp hx with rfl | hx
            · exact fun _ => hy
            rcases List.mem_cons.mp hx with rfl | hx
            · intro hn
              rw [nm oP (by simp)] at hn
              cases hn
            rcases List.mem_append.mp hx with hx | hx
            · refine sep_has (f := fun x => nameB x = true → (find L x).isSome = true) (fun hn => by rw [nm cm (by simp)] at hn; cases hn) (fun a ha => ?_) x hx
              obtain ⟨p', hp', rfl⟩ := List.mem_map.mp ha
              exact ih p' (dp_mem hd' (List.mem_cons_of_mem _ hp')) (List.all_eq_true.mp hg.2 p' hp')
            · rw [List.mem_singleton.mp hx]
              intro hn
              rw [nm cP (by simp)] at hn
              cases hn
        | _ => simp [hasParts] at hg
def spRead (K : PySem.W.Frag) (C : Addr) : Sp := fun vs H Q _ => ∃ (p : Addr) (L : List Ln) (g : G), vs = [.ref p, .str (text g)] ∧ SgL K C H p L ∧ LOk L ∧ fine g = true ∧ sz g ≤ 2000 ∧ lay0 L g = true ∧ ∀ H' v', Same H H' → In K H' v' (laid L g) → Q v' H'
section
variable {X : Cx}
/-- a statement that is never come to -/
theorem ps_dead {st : Stmt} : PS X st (fun _ _ _ => False) := ⟨fun _ _ _ _ _ _ h => h.elim⟩
end
section
variable {P : Program} {w : World} {K : PySem.W.Frag} {mg : Str → Option Value} {base : Heap}
theorem scReadTerm : FnScope nReadTerm ["signs", "text"] (defScope sReadTerm) := ⟨rfl, rfl, rfl, by decide +kernel, rfl, by decide +kernel, by decide +kernel⟩
theorem ok_readTerm {f fl C CT : Addr} {fd fdl : FuncData} {m : Nat} (F : Fun K "read_term" "read_term" sReadTerm f fd) (DW : Df P w K mg base C8.CX0 "words_of" 1 ["text"] spWordsOf) (DD : Df P w K mg base C8.CX0 "draft_of" 4 ["words"] (spTreeOf K)) (DN : Df P w K mg base CX0 "is_name" 2 ["thing"] (spP K nameD))
    (MH : Mt P w K mg base C8.CX0 C "has" 1 ["self", "name"] (spHasG K C)) (G : SgC K C) (FL : FnOk P w K mg base (L2.CX P w) m fl fdl ["signs", "draft"] (spAsk K C CT (aLaid K))) (gL : mg "laid" = some (.ref fl)) (kL : PySem.W.keepIn K (.ref fl) = true) (bL : Binds K fdl ["signs", "draft"] []) (T : Ct mg) (hm : 4 ≤ m) : FnOk P w K mg base C8.CX0 (m + 1) f fd ["signs", "text"] (spRead K C) := by
  obtain ⟨fh, fdh, FH, mH, bH⟩ := MH.ex
  refine F.ok scReadTerm (fun vs H Q E h => ?_) (fun cdv A outer s H vs Q E hr h => ?_)
  · obtain ⟨p, L, g, rfl, _⟩ := h
    rfl
  · obtain ⟨p, L, g, rfl, S, ok, hf, hz, hl, k⟩ := h
    have hr4 : Room 4 _ := hr.mono hm
    refine ⟨_, pss_cons (ps_set (i := 2) scReadTerm.nd rfl (Or.inl rfl) (pe_ifExp (pt_val (pe_callB call_isi (by rfl) T.isi boot_isinstance (pa_cons (pv 1) (pa_cons (pe_bltn (v := .ty "str") (by rfl) T.str boot_str rfl) pa_nil)))) (pe_df DW hr4 pass0 (pa_cons (pv 1) pa_nil)) (pe_lst pa_nil)))
      (pss_cons (ps_set (i := 3) scReadTerm.nd rfl (Or.inl rfl) (pe_df DD hr4 pass0 (pa_cons (pv 2) pa_nil)))
      (pss_cons (ps_if (pt_cmp (pc_isN (pv 3))) (pss_one ps_dead) pss_nil)
      (pss_cons (ps_for PassesOwn.never rfl (pi_list (pv 2)) (pg_name (i := 4) scReadTerm.nd rfl (Or.inl rfl))
        (pss_one (ps_if (PW.pt (pw_and (pt_val (pe_df DN hr4 pass0 (pa_cons (pv 4) pa_nil))) (pw_and1 (pt_not (pt_val (pe_meth (pv 0) G.cl mH FH (hr4.mono (by decide)) bH .nil pass0 (pa_cons (pv 4) pa_nil))))))) (pss_one ps_dead) pss_nil)))
      (pss_one (ps_ret (pe_call FL hr (by rfl) gL kL bL .nil passX (pa_cons (pv 0) (pa_cons (pv 3) pa_nil)))))))), ?_⟩
    have hst : stands L g = true := by
      unfold lay0 at hl
      exact (Bool.and_eq_true_iff.mp hl).1
    have hg := stands_gok ok _ g (Nat.le_refl _) hst
    obtain ⟨hL, hs, hdd⟩ := lay0_less hl hf
    have tl := text_len _ g (Nat.le_refl _) hf
    have kl := toks_len _ g (Nat.le_refl _) hg
    have hin : In K H (.str (text g)) (.s (text g)) := .s _
    obtain ⟨d, t1, t2⟩ := isi_str hin
    refine ⟨_, rfl, _, _, _, _, _, rfl, .ty "str", t1, t2, _, rfl, iteT ?_⟩
    refine ⟨_, rfl, text g, rfl, by omega, fun a H1 s1 na ea => ?_⟩
    rw [words_text hg] at ea
    refine ⟨_, rfl, a, g, rfl, ea, hg, by omega, fun v H2 s2 hv => ?_⟩
    have S2 := (S.same s1).same s2
    have hn := not_non hv hs
    refine ⟨_, rfl, false, by rw [hn], iteF ?_⟩
    refine ⟨_, rfl, a, rfl, ⟨_, SqL.of (s2 _ _ ea)⟩, ?_⟩
    have key : ∀ H3, Same H2 H3 → SqL K H3 a ((toks g).map V.str) := fun H3 s3 => SqL.of ((s2.trans s3) _ _ ea)
    refine for_list (xs := (toks g).map V.str) (fun i σ H' => ∃ v4 : Option V, σ = [some (.ref p), some (.str (text g)), some (.ref a), some v, v4] ∧ Same H2 H') ⟨none, rfl, Same.refl _⟩ (fun i σ H' _ ⟨_, _, s3⟩ => key _ s3) ?_ ?_
    · rintro i y σ H3 hy ⟨v4, rfl, s3⟩
      obtain ⟨x, hx', rfl⟩ : ∃ x : Str, (toks g)[i]? = some x ∧ y = .str x := by
        rw [List.getElem?_map] at hy
        cases q : (toks g)[i]? with
        | none => rw [q] at hy; cases hy
        | some x => rw [q] at hy; exact ⟨x, rfl, (Option.some.inj hy).symm⟩
      have hxm := List.mem_of_getElem? hx'
      have htok := toks_ok _ g (Nat.le_refl _) hg x hxm
      refine ⟨_, rfl, .str x, .str x, rfl, .dat (.str x), tok_ok (tok_fine htok), fun H4 s4 => ⟨nameB x, rfl, ite2 (fun h => ?_) (fun h => ?_)⟩⟩
      · have hh := toks_has _ g (Nat.le_refl _) hst x hxm h
        have S4 := S2.same (s3.trans s4)
        obtain ⟨rt, td, xs, ⟨⟨dx, hp⟩, _⟩, _⟩ := id S4
        have nof : ∀ m : Str, ¬ m = "_table" → ¬ m = "_rows" → (sgF rt td).lookup m = none := fun m h1 h2 => sgF_no rt td h1 h2
        have hhas : hasG (L.map (·.1)) (.s x) = true := by
          refine decide_eq_true ?_
          cases hf2 : find L x with
          | none => rw [hf2] at hh; cases hh
          | some l =>
            obtain ⟨h1, h2⟩ := find_mem hf2
            exact List.mem_map.mpr ⟨l, h1, h2⟩
        refine ⟨_, rfl, p, dx, _, rfl, hp, nof _ (by decide +kernel) (by decide +kernel), _, rfl, p, L, .str x, .s x, rfl, S4, .s x, true, by rw [hhas], iteF_ (by decide) ?_⟩
        exact ⟨_, rfl, s3.trans s4⟩
      · exact iteF_ Bool.false_ne_true ⟨_, rfl, s3.trans s4⟩
    · rintro σ H3 ⟨v4, rfl, s3⟩
      refine ⟨_, rfl, _, rfl, p, L, v, g, rfl, S2.same s3, ok, hv.same s3, hf, hz, fun H4 s4 => ⟨fun _ v' hv' => k _ _ (((s1.trans s2).trans s3).trans s4) hv', fun e => by rw [hl] at e; cases e⟩⟩
end
end K1
set_option Elab.async false
set_option linter.all false
set_option maxRecDepth 100000
set_option maxHeartbeats 2000000
namespace K1
open PySem PySem.Spec PyProof.Rows L2
open PySem.W (EachIs)
abbrev sDraft : Stmt := topS 35
section
variable {P : Program} {w : World} {K : PySem.W.Frag} {mg : Str → Option Value} {base : Heap}
theorem scDraft : FnScope ["signs", "thing"] ["signs", "thing"] (defScope sDraft) := ⟨rfl, rfl, rfl, by decide +kernel, rfl, by decide +kernel, by decide +kernel⟩
theorem ok_draft {f C : Addr} {fd : FuncData} {m : Nat} (F : Fun K "is_draft" "is_draft" sDraft f fd) (DL : Df P w K mg base C8.CX0 "laid_or_none" m ["signs", "thing"] (spOrNone K C)) : FnOk P w K mg base C8.CX0 (m + 1) f fd ["signs", "thing"] (spIs K C lay0) := by
  refine F.ok scDraft (fun vs H Q E h => ?_) (fun cdv A outer s H vs Q E hr h => ?_)
  · obtain ⟨p, L, v, g, rfl, _⟩ := h
    rfl
  · obtain ⟨p, L, v, g, rfl, S, ok, hin, hf, hz, k⟩ := h
    refine ⟨_, pss_one (ps_ret (pe_cmp (pc_notN (pe_df DL hr pass0 (pa_cons (pv 0) (pa_cons (pv 1) pa_nil)) (Nat.le_refl _))) rfl)), ?_⟩
    refine ⟨_, rfl, _, rfl, p, L, v, g, rfl, S, ok, hin, hf, hz, fun H1 s1 => ⟨fun e => ?_, fun e v' hv' => ?_⟩⟩
    · have q1 := k H1 s1
      rw [e] at q1
      exact q1
    · have q1 := k H1 s1
      rw [e] at q1
      have hn := not_non hv' (lay0_less e hf).1.shp
      show Q (.bl (!decide (v' = V.non))) H1
      rw [hn]
      exact q1
end
end K1
set_option Elab.async false
set_option linter.all false
set_option maxRecDepth 100000
set_option maxHeartbeats 1000000
namespace K1
open PySem PySem.Spec PyProof.Rows L2
open PySem.W (EachIs)
/-! ### parts laid ahead -/
theorem lay0_st {L : List Ln} {g : G} (h : lay0 L g = true) : stands L g = true ∧ points g ≤ 80 ∧ deep g ≤ 12 ∧ points (laid L g) ≤ 80 ∧ deep (laid L g) ≤ 12 ∧ wide (laid L g) ≤ 8 := by
  unfold lay0 at h
  rw [Bool.and_eq_true_iff, Bool.and_eq_true_iff, Bool.and_eq_true_iff] at h
  obtain ⟨h1, h2, h3, h4⟩ := h
  have hb : beyond (laid L g) = false := by simpa using h4
  unfold beyond at hb
  simp only [Bool.or_eq_false_iff, decide_eq_false_iff_not] at hb
  exact ⟨h1, of_decide_eq_true h2, of_decide_eq_true h3, by omega, by omega, by omega⟩
theorem lay0_mk {L : List Ln} {g : G} (h1 : stands L g = true) (h2 : points g ≤ 80) (h3 : deep g ≤ 12) (h4 : points (laid L g) ≤ 80) (h5 : deep (laid L g) ≤ 12) (h6 : wide (laid L g) ≤ 8) : lay0 L g = true := by
  unfold lay0
  rw [h1, decide_eq_true h2, decide_eq_true h3]
  unfold beyond
  rw [decide_eq_false (show ¬ 80 < points (laid L g) by omega), decide_eq_false (show ¬ 12 < deep (laid L g) by omega), decide_eq_false (show ¬ 8 < wide (laid L g) by omega)]
  rfl
theorem stands_part {L : List Ln} {h : G} {ps : List G} (hs : stands L (.t (h :: ps)) = true) : ∀ p ∈ ps, stands L p = true := by
  rw [stands_t, Bool.and_eq_true_iff] at hs
  exact List.all_eq_true.mp hs.2
theorem lay0_part {L : List Ln} {x : Str} {ps : List G} (h : lay0 L (.t (.s x :: ps)) = true) (hf : fine (.t (.s x :: ps)) = true) : ∀ p ∈ ps, lay0 L p = true := fun p hp => by
  obtain ⟨h1, h2, h3, h4, h5, h6⟩ := lay0_st h
  have hsp := stands_part h1 p hp
  have hl := laid_less (L := L) _ p (Nat.le_refl _) (stands_shp _ p (Nat.le_refl _) hsp).1 (fine_mem hf (List.mem_cons_of_mem _ hp))
  have e1 := hl.pts
  have e2 := hl.deep
  rw [points_t] at h2
  rw [deep_t] at h3
  have e3 := le_sum (List.mem_map.mpr ⟨p, hp, rfl⟩ : points p ∈ ps.map points)
  have e4 := le_maxl (List.mem_map.mpr ⟨p, hp, rfl⟩ : deep p ∈ ps.map deep)
  rw [laid_t] at h6
  have e5 := wide_q (k := kindOf L x) (h := x) (List.mem_map.mpr ⟨p, hp, rfl⟩ : laid L p ∈ ps.map (laid L))
  exact lay0_mk hsp (by omega) (by omega) (by omega) (by omega) (by omega)
structure Ahd (L : List Ln) (g g' : G) : Prop where
  st : stands L g' = true
  ld : laid L g' = laid L g
  pt : points g' ≤ points g
  dpp : deep g' ≤ deep g
  fn : fine g' = true
theorem Ahd.refl {L : List Ln} {g : G} (h : lay0 L g = true) (hf : fine g = true) : Ahd L g g := ⟨(lay0_st h).1, rfl, Nat.le_refl _, Nat.le_refl _, hf⟩
theorem Ahd.laid {L : List Ln} {g : G} (h : lay0 L g = true) (hf : fine g = true) : Ahd L g (laid L g) := by
  obtain ⟨h1, h2, h3, h4, h5, h6⟩ := lay0_st h
  have hl := laid_less (L := L) _ g (Nat.le_refl _) (stands_shp _ g (Nat.le_refl _) h1).1 hf
  exact ⟨stands_laid _ g (Nat.le_refl _) h1 h6, laid_laid L g, hl.pts, hl.deep, hl.fine⟩
theorem Ahd.lay {L : List Ln} {g g' : G} (a : Ahd L g g') (h : lay0 L g = true) : lay0 L g' = true := by
  obtain ⟨h1, h2, h3, h4, h5, h6⟩ := lay0_st h
  have := a.pt
  have := a.dpp
  exact lay0_mk a.st (by omega) (by omega) (by rw [a.ld]; exact h4) (by rw [a.ld]; exact h5) (by rw [a.ld]; exact h6)
theorem Ahd.shp {L : List Ln} {g g' : G} (a : Ahd L g g') : shp g' = true := (stands_shp _ g' (Nat.le_refl _) a.st).1
theorem ahd_all {L : List Ln} : ∀ {gs ps : List G}, EachIs (fun g p => Ahd L p g) gs ps → gs.map (laid L) = ps.map (laid L) ∧ (gs.map points).sum ≤ (ps.map points).sum ∧ maxl (gs.map deep) ≤ maxl (ps.map deep) ∧ (∀ g ∈ gs, stands L g = true ∧ fine g = true) ∧ gs.length = ps.length
  | _, _, .nil => ⟨rfl, Nat.le_refl _, Nat.le_refl _, fun _ z => absurd z (by simp), rfl⟩
  | _, _, .cons (a := g) (b := p) h t => by
    obtain ⟨i1, i2, i3, i4, i5⟩ := ahd_all t
    refine ⟨by rw [List.map_cons, List.map_cons, h.ld, i1], ?_, ?_, fun z hz => ?_, by rw [List.length_cons, List.length_cons, i5]⟩
    · rw [List.map_cons, List.sum_cons, List.map_cons, List.sum_cons]
      exact Nat.add_le_add h.pt i2
    · rw [List.map_cons, List.map_cons]
      have := h.dpp
      show max _ (maxl _) ≤ max _ (maxl _)
      omega
    · rcases List.mem_cons.mp hz with rfl | hz
      · exact ⟨h.st, h.fn⟩
      · exact i4 z hz
theorem Ahd.tup {L : List Ln} {x : Str} {gs ps : List G} (hs : stands L (.t (.s x :: ps)) = true) (hf : fine (.s x) = true) (h : EachIs (fun g p => Ahd L p g) gs ps) : Ahd L (.t (.s x :: ps)) (.t (.s x :: gs)) := by
  obtain ⟨i1, i2, i3, i4, i5⟩ := ahd_all h
  rw [stands_t, Bool.and_eq_true_iff] at hs
  refine ⟨by rw [stands_t, i5, hs.1, Bool.true_and]; exact List.all_eq_true.mpr fun g hg => (i4 g hg).1, by rw [laid_t, laid_t, i1], ?_, ?_, fine_mk fun p hp => ?_⟩
  · rw [points_t, points_t]
    omega
  · rw [deep_t, deep_t]
    omega
  · rcases List.mem_cons.mp hp with rfl | hp
    · exact hf
    · exact (i4 p hp).2
/-! ### gaps of a thing laid -/
theorem gaps_laid {L : List Ln} {x : Str} (n : Nat) : ∀ g, dp g ≤ n → shp g = true → (x ∈ gapsOf (laid L g) ↔ x ∈ gapsOf g) := by
  induction n with
  | zero =>
    intro g h
    have := dp_pos g
    omega
  | succ n ih =>
    intro g hd' hs
    rcases shp_cases hs with ⟨y, rfl⟩ | ⟨y, ps, rfl, hp⟩
    · rw [laid_s]
    · rw [laid_t, gapsOf_t, gapsOf_t]
      have one : ∀ q : G, (∃ r ∈ oneP y q, x ∈ gapsOf r) ↔ x ∈ gapsOf q := fun q => by
        by_cases e : ∃ rs, q = .t (.s y :: rs)
        · obtain ⟨rs, rfl⟩ := e
          have : oneP y (.t (.s y :: rs)) = rs := by simp [oneP]
          rw [this, gapsOf_t, List.mem_flatten]
          constructor
          · rintro ⟨r, h1, h2⟩
            exact ⟨_, List.mem_map.mpr ⟨r, h1, rfl⟩, h2⟩
          · rintro ⟨l, h1, h2⟩
            obtain ⟨r, hr, rfl⟩ := List.mem_map.mp h1
            exact ⟨r, hr, h2⟩
        · rw [oneP_no fun rs z => e ⟨rs, z⟩]
          simp
      have ho : ∀ qs : List G, (∃ r ∈ opn (kindOf L y) y qs, x ∈ gapsOf r) ↔ ∃ q ∈ qs, x ∈ gapsOf q := fun qs => by
        unfold opn
        split
        · constructor
          · rintro ⟨r, h1, h2⟩
            obtain ⟨q, hq, hr⟩ := List.mem_flatMap.mp h1
            exact ⟨q, hq, (one q).mp ⟨r, hr, h2⟩⟩
          · rintro ⟨q, hq, h2⟩
            obtain ⟨r, hr, h3⟩ := (one q).mpr h2
            exact ⟨r, List.mem_flatMap.mpr ⟨q, hq, hr⟩, h3⟩
        · exact Iff.rfl
      rw [List.mem_flatten, List.mem_flatten]
      constructor
      · rintro ⟨l, h1, h2⟩
        obtain ⟨r, hr, rfl⟩ := List.mem_map.mp h1
        obtain ⟨q, hq, h3⟩ := (ho _).mp ⟨r, (arr_perm _ _ _).mem_iff.mp hr, h2⟩
        obtain ⟨p, hpm, rfl⟩ := List.mem_map.mp hq
        exact ⟨_, List.mem_map.mpr ⟨p, hpm, rfl⟩, (ih p (dp_mem hd' (List.mem_cons_of_mem _ hpm)) (hp p hpm)).mp h3⟩
      · rintro ⟨l, h1, h2⟩
        obtain ⟨p, hpm, rfl⟩ := List.mem_map.mp h1
        have h3 := (ih p (dp_mem hd' (List.mem_cons_of_mem _ hpm)) (hp p hpm)).mpr h2
        obtain ⟨r, hr, h4⟩ := (ho _).mpr ⟨_, List.mem_map.mpr ⟨p, hpm, rfl⟩, h3⟩
        exact ⟨_, List.mem_map.mpr ⟨r, (arr_perm _ _ _).mem_iff.mpr hr, rfl⟩, h4⟩
end K1
set_option Elab.async false
set_option linter.all false
set_option maxRecDepth 100000
set_option maxHeartbeats 1000000
namespace K1
open PySem PySem.Spec PyProof.Rows L2
/-! ### signs and gaps called otherwise -/
def ren (r : Str → Str) : G → G
  | .s x => .s (r x)
  | .t ps => .t (ps.map (ren r))
  | g => g
theorem ren_s (r : Str → Str) (x : Str) : ren r (.s x) = .s (r x) := by simp only [ren]
theorem ren_t (r : Str → Str) (x : Str) (ps : List G) : ren r (.t (.s x :: ps)) = .t (.s (r x) :: ps.map (ren r)) := by rw [ren, List.map_cons, ren_s]
/-- signs called otherwise, and these gaps -/
structure Ren (L L' : List Ln) (gs : List Str) (r : Str → Str) : Prop where
  eL : L' = L.map fun l => (r l.1, l.2)
  ok : LOk L
  ok' : LOk L'
  inj : ∀ x ∈ L.map (·.1) ++ gs, ∀ y ∈ L.map (·.1) ++ gs, r x = r y → x = y
  gp : ∀ x ∈ gs, gapB (r x) = true
variable {L L' : List Ln} {gs : List Str} {r : Str → Str}
theorem find_ren : ∀ {L : List Ln} {x : Str}, (∀ l ∈ L, r l.1 = r x → l.1 = x) → find (L.map fun l => (r l.1, l.2)) (r x) = (find L x).map fun l => (r l.1, l.2)
  | [], _, _ => rfl
  | m :: L, x, h => by
    rw [List.map_cons]
    unfold find
    by_cases e : m.1 = x
    · rw [if_pos e, if_pos (by rw [e])]
      rfl
    · rw [if_neg e, if_neg fun z => e (h m List.mem_cons_self z)]
      exact find_ren fun l hl => h l (List.mem_cons_of_mem _ hl)
theorem find_name {x : Str} {l : Ln} (h : find L x = some l) : x ∈ L.map (·.1) := by
  obtain ⟨h1, h2⟩ := find_mem h
  exact List.mem_map.mpr ⟨l, h1, h2⟩
theorem Ren.find (R : Ren L L' gs r) {x : Str} (hx : x ∈ L.map (·.1)) : find L' (r x) = (K1.find L x).map fun l => (r l.1, l.2) := by
  rw [R.eL]
  exact find_ren fun l hl e => R.inj _ (List.mem_append_left _ (List.mem_map.mpr ⟨l, hl, rfl⟩)) _ (List.mem_append_left _ hx) e
theorem Ren.kind (R : Ren L L' gs r) {x : Str} (hx : x ∈ L.map (·.1)) : kindOf L' (r x) = kindOf L x := by
  unfold kindOf
  rw [R.find hx]
  cases K1.find L x <;> rfl
theorem Ren.has (R : Ren L L' gs r) {x : Str} (hx : x ∈ L.map (·.1)) (n : Nat) : hasParts L' (.s (r x)) n = hasParts L (.s x) n := by
  simp only [hasParts, R.find hx]
  cases K1.find L x <;> rfl
theorem head_name {x : Str} {ps : List G} (h : stands L (.t (.s x :: ps)) = true) : x ∈ L.map (·.1) := by
  obtain ⟨y, l, e, hf, _⟩ := stands_head h
  cases e
  exact find_name hf
/-- its gaps are of those -/
def Gin (gs : List Str) (g : G) : Prop := ∀ x ∈ gapsOf g, x ∈ gs
theorem Gin.part {x : Str} {ps : List G} (h : Gin gs (.t (.s x :: ps))) : ∀ p ∈ ps, Gin gs p := fun p hp z hz => h z (by
  rw [gapsOf_t, List.mem_flatten]
  exact ⟨_, List.mem_map.mpr ⟨p, hp, rfl⟩, hz⟩)
theorem Gin.s {x : Str} (h : Gin gs (.s x)) : x ∈ gs := h x (by rw [gapsOf_s]; exact List.mem_singleton.mpr rfl)
/-- what is said of renamed things -/
structure RenO (L' : List Ln) (r : Str → Str) (g : G) : Prop where
  st : stands L' (ren r g) = true
  pt : points (ren r g) = points g
  dpp : deep (ren r g) = deep g
  dp : dp (ren r g) = dp g
  sz : sz (ren r g) = sz g
theorem map_same {α β : Type} {f g : α → β} : ∀ {l : List α}, (∀ a ∈ l, f a = g a) → l.map f = l.map g := fun h => List.map_congr_left h
theorem Ren.all (R : Ren L L' gs r) (n : Nat) : ∀ g, K1.dp g ≤ n → stands L g = true → Gin gs g → RenO L' r g := by
  induction n with
  | zero =>
    intro g h
    have := dp_pos g
    omega
  | succ n ih =>
    intro g hd' hst hg
    rcases shp_cases (stands_shp _ g (Nat.le_refl _) hst).1 with ⟨x, rfl⟩ | ⟨x, ps, rfl, hp⟩
    · refine ⟨?_, ?_, ?_, ?_, ?_⟩ <;> rw [ren_s]
      · rw [stands_s]
        exact R.gp x hg.s
      · simp [points]
      · simp [deep]
      · rw [dp_s, dp_s]
      · rw [sz_s, sz_s]
    · have hx := head_name hst
      have hsp := stands_part hst
      have key : ∀ p ∈ ps, RenO L' r p := fun p hm => ih p (dp_mem hd' (List.mem_cons_of_mem _ hm)) (hsp p hm) (hg.part p hm)
      rw [stands_t, Bool.and_eq_true_iff] at hst
      refine ⟨?_, ?_, ?_, ?_, ?_⟩ <;> rw [ren_t]
      · rw [stands_t, R.has hx, List.length_map, hst.1, Bool.true_and, List.all_eq_true]
        intro q hq
        obtain ⟨p, hm, rfl⟩ := List.mem_map.mp hq
        exact (key p hm).st
      · rw [points_t, points_t, List.map_map, map_same (f := points ∘ ren r) (g := points) fun p hm => (key p hm).pt]
      · rw [deep_t, deep_t, List.map_map, map_same (f := deep ∘ ren r) (g := deep) fun p hm => (key p hm).dpp]
      · rw [dp_ts, dp_ts, List.map_map, map_same (f := K1.dp ∘ ren r) (g := K1.dp) fun p hm => (key p hm).dp]
      · rw [sz_ts, sz_ts, List.map_map, map_same (f := K1.sz ∘ ren r) (g := K1.sz) fun p hm => (key p hm).sz]
theorem hd_inj {a b : Str} {ps qs : List G} (e : G.t (.s a :: ps) = .t (.s b :: qs)) : a = b := by
  injection e with e
  injection e with e _
  injection e
theorem head_ren {h y : Str} {rs : List G} (e : r y = r h → y = h) (f : List G → List G) (f' : List G → List G) (hf : f' (rs.map (ren r)) = (f rs).map (ren r)) : open1 (r h) f' (ren r (.t (.s y :: rs))) = (open1 h f (.t (.s y :: rs))).map (ren r) := by
  rw [ren_t]
  by_cases z : y = h
  · subst z
    rw [open1_same, open1_same, hf]
  · rw [open1_other fun qs e' => z (e (hd_inj e')), open1_other fun qs e' => z (hd_inj e'), List.map_cons, List.map_nil, ren_t]
theorem openN_ren {h : Str} (n : Nat) : ∀ ps : List G, (∀ p ∈ ps, stands L p = true) → (∀ y ∈ L.map (·.1), r y = r h → y = h) → openN (r h) n (ps.map (ren r)) = (openN h n ps).map (ren r) := by
  induction n with
  | zero => exact fun ps _ _ => rfl
  | succ n ih =>
    intro ps hs hi
    show (ps.map (ren r)).flatMap _ = (ps.flatMap _).map _
    rw [List.flatMap_map, List.map_flatMap]
    refine flatMap_same fun p hp => ?_
    have hsp := hs p hp
    rcases shp_cases (stands_shp _ p (Nat.le_refl _) hsp).1 with ⟨y, rfl⟩ | ⟨y, rs, rfl, _⟩
    · rw [ren_s]
      simp only [open1, List.map_cons, List.map_nil, ren_s]
    · exact head_ren (hi y (head_name hsp)) _ _ (ih rs (stands_part hsp) hi)
theorem Ren.op (R : Ren L L' gs r) {h : Str} {ps : List G} (hh : h ∈ L.map (·.1)) (hs : ∀ p ∈ ps, stands L p = true) (hg : ∀ p ∈ ps, Gin gs p) : opG L' (r h) (ps.map (ren r)) = (opG L h ps).map (ren r) := by
  unfold opG
  rw [R.kind hh, List.map_map, map_same (f := K1.dp ∘ ren r) (g := K1.dp) fun p hm => (R.all _ p (Nat.le_refl _) (hs p hm) (hg p hm)).dp]
  split
  · exact openN_ren _ _ hs fun y hy e => R.inj y (List.mem_append_left _ hy) h (List.mem_append_left _ hh) e
  · rfl
theorem drop1_map {f f' : G → Bool} {m : G → G} : ∀ {qs : List G}, (∀ q ∈ qs, f' (m q) = f q) → drop1 f' (qs.map m) = (drop1 f qs).map (·.map m)
  | [], _ => rfl
  | q :: qs, h => by
    rw [List.map_cons, drop1, drop1, h q List.mem_cons_self]
    by_cases e : f q = true
    · rw [if_pos e, if_pos e]
      rfl
    · rw [if_neg e, if_neg e, drop1_map fun p hp => h p (List.mem_cons_of_mem _ hp)]
      cases drop1 f qs <;> rfl
theorem match_map {f f' : G → G → Bool} {m : G → G} : ∀ {ps qs : List G}, (∀ p ∈ ps, ∀ q ∈ qs, f' (m p) (m q) = f p q) → matchAll f' (ps.map m) (qs.map m) = matchAll f ps qs
  | [], _, _ => rfl
  | p :: ps, qs, h => by
    rw [List.map_cons, matchAll, matchAll, drop1_map fun q hq => h p List.mem_cons_self q hq]
    cases hd : drop1 (f p) qs with
    | none => rfl
    | some rest =>
      obtain ⟨z, _, _, h3⟩ := drop1_some hd
      exact match_map fun a ha b hb => h a (List.mem_cons_of_mem _ ha) b (h3.mem_iff.mpr (List.mem_cons_of_mem _ hb))
theorem pairs_map {f f' : G → G → Bool} {m : G → G} : ∀ {ps qs : List G}, (∀ p ∈ ps, ∀ q ∈ qs, f' (m p) (m q) = f p q) → allPairs f' (ps.map m) (qs.map m) = allPairs f ps qs
  | [], [], _ => rfl
  | [], _ :: _, _ => rfl
  | _ :: _, [], _ => rfl
  | p :: ps, q :: qs, h => by
    rw [List.map_cons, List.map_cons, allPairs, allPairs, h p List.mem_cons_self q List.mem_cons_self, pairs_map fun a ha b hb => h a (List.mem_cons_of_mem _ ha) b (List.mem_cons_of_mem _ hb)]
theorem opG_mem' {h : Str} {ps : List G} {N : Nat} (hd : ∀ p ∈ ps, dp p ≤ N) (hs : ∀ p ∈ ps, stands L p = true) (hg : ∀ p ∈ ps, Gin gs p) : ∀ q ∈ opG L h ps, dp q ≤ N ∧ stands L q = true ∧ Gin gs q := by
  have key : ∀ (n : Nat) (ps : List G), (∀ p ∈ ps, Gin gs p) → ∀ q ∈ openN h n ps, Gin gs q := fun n => by
    induction n with
    | zero => exact fun ps hg => hg
    | succ n ih =>
      intro ps hg q hq
      obtain ⟨p, hp, hqp⟩ := List.mem_flatMap.mp hq
      by_cases e : ∃ rs, p = .t (.s h :: rs)
      · obtain ⟨rs, rfl⟩ := e
        rw [open1_same] at hqp
        exact ih rs (hg _ hp).part q hqp
      · rw [open1_other fun rs z => e ⟨rs, z⟩, List.mem_singleton] at hqp
        rw [hqp]
        exact hg p hp
  intro q hq
  obtain ⟨h1, h2⟩ := opG_mem hd hs q hq
  refine ⟨h1, h2, ?_⟩
  unfold opG at hq
  split at hq
  · exact key _ _ hg q hq
  · exact hg q hq
theorem Ren.are (R : Ren L L' gs r) (n : Nat) : ∀ a b, K1.dp a ≤ n → stands L a = true → stands L b = true → Gin gs a → Gin gs b → areN L' n (ren r a) (ren r b) = areN L n a b := by
  induction n with
  | zero =>
    intro a b h
    have := dp_pos a
    omega
  | succ n ih =>
    intro a b hd' ha hb ga gb
    rcases shp_cases (stands_shp _ a (Nat.le_refl _) ha).1 with ⟨x, rfl⟩ | ⟨x, ps, rfl, _⟩ <;> rcases shp_cases (stands_shp _ b (Nat.le_refl _) hb).1 with ⟨y, rfl⟩ | ⟨y, qs, rfl, _⟩
    · rw [ren_s, ren_s]
      simp only [areN]
      rw [Bool.eq_iff_iff, decide_eq_true_iff, decide_eq_true_iff]
      exact ⟨fun e => R.inj x (List.mem_append_right _ ga.s) y (List.mem_append_right _ gb.s) e, fun e => by rw [e]⟩
    · rw [ren_s, ren_t]
      simp [areN]
    · rw [ren_s, ren_t]
      simp [areN]
    · have hx := head_name ha
      have hy := head_name hb
      have e1 := R.op hx (stands_part ha) ga.part
      have e2 := R.op hy (stands_part hb) gb.part
      rw [ren_t, ren_t]
      simp only [areN]
      rw [e1, e2, List.length_map, List.length_map, R.kind hx]
      have hxy : decide (r x = r y) = decide (x = y) := by
        rw [Bool.eq_iff_iff, decide_eq_true_iff, decide_eq_true_iff]
        exact ⟨fun e => R.inj x (List.mem_append_left _ hx) y (List.mem_append_left _ hy) e, fun e => by rw [e]⟩
      have hA := opG_mem' (h := x) (fun p hp => dp_mem hd' (List.mem_cons_of_mem _ hp)) (stands_part ha) ga.part
      have hB := opG_mem' (h := y) (N := maxl (qs.map K1.dp)) le_dps (stands_part hb) gb.part
      have hf : ∀ p ∈ opG L x ps, ∀ q ∈ opG L y qs, areN L' n (ren r p) (ren r q) = areN L n p q := fun p hp q hq => ih p q (hA p hp).1 (hA p hp).2.1 (hB q hq).2.1 (hA p hp).2.2 (hB q hq).2.2
      rw [hxy, match_map hf, pairs_map hf]
/-- a thing and what it is laid to, called otherwise, are laid to one -/
theorem Ren.laid (R : Ren L L' gs r) {g : G} (h : lay0 L g = true) (hg : Gin gs g) : K1.laid L' (ren r g) = K1.laid L' (ren r (K1.laid L g)) := by
  obtain ⟨h1, _, _, _, _, h6⟩ := lay0_st h
  have hs := (stands_shp _ g (Nat.le_refl _) h1).1
  have h2 := stands_laid _ g (Nat.le_refl _) h1 h6
  have hg2 : Gin gs (K1.laid L g) := fun x hx => hg x ((gaps_laid _ g (Nat.le_refl _) hs).mp hx)
  have a1 := R.all _ g (Nat.le_refl _) h1 hg
  have a2 := R.all _ (K1.laid L g) (Nat.le_refl _) h2 hg2
  refine (are_laid R.ok' (K1.dp g) _ _ (by rw [a1.dp]; exact Nat.le_refl _) a1.st a2.st).mp ?_
  rw [R.are (K1.dp g) g _ (Nat.le_refl _) h1 h2 hg hg2]
  exact (are_laid R.ok (K1.dp g) g _ (Nat.le_refl _) h1 h2).mpr (laid_laid L g).symm
/-- what is said of a laid thing, called otherwise and laid -/
structure RenM (L' : List Ln) (r : Str → Str) (g : G) : Prop where
  pt : points (K1.laid L' (ren r g)) = points g
  dpp : deep (K1.laid L' (ren r g)) = deep g
  wd : wide (K1.laid L' (ren r g)) = wide g
  gp : ∀ x, x ∈ gapsOf (K1.laid L' (ren r g)) ↔ x ∈ (gapsOf g).map r
theorem maxl_perm {as bs : List Nat} (p : as.Perm bs) : maxl as = maxl bs := Nat.le_antisymm (maxl_le.mpr fun n hn => le_maxl (p.mem_iff.mp hn)) (maxl_le.mpr fun n hn => le_maxl (p.mem_iff.mpr hn))
theorem Ren.meas (R : Ren L L' gs r) (n : Nat) : ∀ g, K1.dp g ≤ n → stands L g = true → Gin gs g → K1.laid L g = g → RenM L' r g := by
  induction n with
  | zero =>
    intro g h
    have := dp_pos g
    omega
  | succ n ih =>
    intro g hd' hst hg hl
    rcases shp_cases (stands_shp _ g (Nat.le_refl _) hst).1 with ⟨x, rfl⟩ | ⟨x, ps, rfl, hp⟩
    · refine ⟨?_, ?_, ?_, fun z => ?_⟩ <;> rw [ren_s, laid_s]
      · simp [points]
      · simp [deep]
      · simp [wide]
      · rw [gapsOf_s, gapsOf_s]
        simp
    · have hx := head_name hst
      have hsp := stands_part hst
      have hq := laid_q L _ (.t (.s x :: ps)) (Nat.le_refl _)
      rw [hl] at hq
      obtain ⟨q1, q2⟩ := hq.2 x ps rfl
      have key : ∀ p ∈ ps, RenM L' r p := fun p hm => ih p (dp_mem hd' (List.mem_cons_of_mem _ hm)) (hsp p hm) (hg.part p hm) (q1 p hm)
      have ho : opn (kindOf L' (r x)) (r x) ((ps.map (ren r)).map (K1.laid L')) = (ps.map (ren r)).map (K1.laid L') := by
        unfold opn
        split
        · next er =>
          rw [R.kind hx] at er
          refine flat_no fun z hz => ?_
          obtain ⟨y, hy, rfl⟩ := List.mem_map.mp hz
          obtain ⟨p, hm, rfl⟩ := List.mem_map.mp hy
          refine laid_noHd fun rs e => ?_
          rcases shp_cases (hp p hm) with ⟨y, rfl⟩ | ⟨y, rs', rfl, _⟩
          · rw [ren_s] at e
            cases e
          · rw [ren_t] at e
            have e1 : r y = r x := hd_inj e
            have := R.inj y (List.mem_append_left _ (head_name (hsp _ hm))) x (List.mem_append_left _ hx) e1
            subst this
            exact q2 er _ hm rs' rfl
        · rfl
      have pp := arr_perm (kindOf L' (r x)) (r x) ((ps.map (ren r)).map (K1.laid L'))
      rw [ho, List.map_map] at pp
      refine ⟨?_, ?_, ?_, fun z => ?_⟩ <;> rw [ren_t, laid_t]
      · rw [points_t, points_t, List.map_map, sum_perm (pp.map points), List.map_map, map_same (f := points ∘ K1.laid L' ∘ ren r) (g := points) fun p hm => (key p hm).pt]
      · rw [deep_t, deep_t, List.map_map, maxl_perm (pp.map deep), List.map_map, map_same (f := deep ∘ K1.laid L' ∘ ren r) (g := deep) fun p hm => (key p hm).dpp]
      · rw [wide_t, wide_t, List.map_map, maxl_perm (pp.map wide), pp.length_eq, List.map_map, List.length_map, map_same (f := wide ∘ K1.laid L' ∘ ren r) (g := wide) fun p hm => (key p hm).wd]
      · rw [gapsOf_t, gapsOf_t, List.map_map, List.mem_flatten, List.mem_map]
        constructor
        · rintro ⟨l, h1, h2⟩
          obtain ⟨q, hq, rfl⟩ := List.mem_map.mp h1
          obtain ⟨p, hm, rfl⟩ := List.mem_map.mp (pp.mem_iff.mp hq)
          obtain ⟨w, hw, rfl⟩ := List.mem_map.mp (((key p hm).gp z).mp h2)
          exact ⟨w, List.mem_flatten.mpr ⟨_, List.mem_map.mpr ⟨p, hm, rfl⟩, hw⟩, rfl⟩
        · rintro ⟨w, hw, rfl⟩
          obtain ⟨l, hl', hwl⟩ := List.mem_flatten.mp hw
          obtain ⟨p, hm, rfl⟩ := List.mem_map.mp hl'
          exact ⟨_, List.mem_map.mpr ⟨_, pp.mem_iff.mpr (List.mem_map.mpr ⟨p, hm, rfl⟩), rfl⟩, ((key p hm).gp _).mpr (List.mem_map.mpr ⟨w, hwl, rfl⟩)⟩
/-- a draft called otherwise is one -/
theorem Ren.lay (R : Ren L L' gs r) {g : G} (h : lay0 L g = true) (hg : Gin gs g) : lay0 L' (ren r g) = true ∧ lay0 L' (ren r (K1.laid L g)) = true ∧ RenM L' r (K1.laid L g) := by
  obtain ⟨h1, h2, h3, h4, h5, h6⟩ := lay0_st h
  have hs := (stands_shp _ g (Nat.le_refl _) h1).1
  have hs2 := stands_laid _ g (Nat.le_refl _) h1 h6
  have hg2 : Gin gs (K1.laid L g) := fun x hx => hg x ((gaps_laid _ g (Nat.le_refl _) hs).mp hx)
  have a1 := R.all _ g (Nat.le_refl _) h1 hg
  have a2 := R.all _ (K1.laid L g) (Nat.le_refl _) hs2 hg2
  have m := R.meas _ (K1.laid L g) (Nat.le_refl _) hs2 hg2 (laid_laid L g)
  have e := R.laid h hg
  refine ⟨lay0_mk a1.st (by rw [a1.pt]; exact h2) (by rw [a1.dpp]; exact h3) ?_ ?_ ?_, lay0_mk a2.st (by rw [a2.pt]; exact h4) (by rw [a2.dpp]; exact h5) (by rw [m.pt]; exact h4) (by rw [m.dpp]; exact h5) (by rw [m.wd]; exact h6), m⟩
  · rw [e, m.pt]
    exact h4
  · rw [e, m.dpp]
    exact h5
  · rw [e, m.wd]
    exact h6
end K1
set_option Elab.async false
set_option linter.all false
set_option maxRecDepth 100000
set_option maxHeartbeats 2000000
namespace K1
open PySem PySem.Spec PyProof.Rows L2
open PySem.W (EachIs)
theorem askT {K : PySem.W.Frag} {C CT p : Addr} {L : List Ln} {v : V} {g : G} {A : Hp → G → V → Hp → Prop} {H : Hp} {Q : VK} {E : XK} (S : SgL K C H p L) (ok : LOk L) (hin : In K H v g) (hf : fine g = true) (hz : sz g ≤ 2000) (hl : lay0 L g = true) (k : ∀ H1 v', Same H H1 → A H (laid L g) v' H1 → Q v' H1) : spAsk K C CT A [.ref p, v] H Q E :=
  ⟨p, L, v, g, rfl, S, ok, hin, hf, hz, fun H1 s1 => ⟨fun _ v' h => k H1 v' s1 h, fun e => by rw [hl] at e; cases e⟩⟩
abbrev sTerm : Stmt := topS 36
abbrev sAhd : Stmt := topS 71
abbrev nAhd : List Str := ["_law_state", "_law_stock", "_law_loose_here", "_law_way", "_law_part"]
def AhR (K : PySem.W.Frag) (L : List Ln) (g : G) (H : Hp) (y : V) : Prop := ∃ g', In K H y g' ∧ Ahd L g g'
theorem AhR.tk {K : PySem.W.Frag} {L : List Ln} {g : G} {H H' : Hp} {y : V} (q : AhR K L g H y) (s : TupK H H') : AhR K L g H' y := by
  obtain ⟨g', h1, h2⟩ := q
  exact ⟨g', in_tk s _ _ h2.shp h1, h2⟩
theorem ahr_in {K : PySem.W.Frag} {L : List Ln} {H : Hp} : ∀ {ys : List V} {ps : List G}, EachIs (fun y p => AhR K L p H y) ys ps → ∃ gs, InL K H ys gs ∧ EachIs (fun g p => Ahd L p g) gs ps
  | _, _, .nil => ⟨[], .nil, .nil⟩
  | _, _, .cons h t => by
    obtain ⟨g, h1, h2⟩ := h
    obtain ⟨gs, i1, i2⟩ := ahr_in t
    exact ⟨g :: gs, .cons h1 i1, .cons h2 i2⟩
def ptN (gs : List G) : Nat := (gs.map points).sum
theorem ptN_snoc {gs : List G} {i : Nat} {g : G} (h : gs[i]? = some g) : ptN (gs.take (i + 1)) = ptN (gs.take i) + points g := by
  unfold ptN
  rw [take_snoc h, List.map_append, List.sum_append]
  simp
def spAhd (K : PySem.W.Frag) (TT : List (Addr × Str)) (C : Addr) (n : Nat) : Sp := fun vs H Q _ => ∃ (d g c p : Addr) (t : Nat) (L : List Ln) (v : V) (gg : G), vs = [.ref d, .ref p, v] ∧ Wd TT d g c t H ∧ SgL K C (hid [d, g] H) p L ∧ LOk L ∧ In K H v gg ∧ lay0 L gg = true ∧ fine gg = true ∧ dp gg ≤ n ∧ sz gg ≤ 2000 ∧ t + points gg < 2 ^ 30 ∧
  ∀ v' H', AhR K L gg H' v' → Wd TT d g c (t + points gg) H' → Kn d g H H' → Q v' H'
section
variable {P : Program} {w : World} {K : PySem.W.Frag} {mg : Str → Option Value} {base : Heap}
theorem scTerm : FnScope ["signs", "thing", "term"] ["signs", "thing"] (defScope sTerm) := ⟨rfl, rfl, rfl, by decide +kernel, rfl, by decide +kernel, by decide +kernel⟩
theorem ok_term {f C : Addr} {fd : FuncData} {m : Nat} (F : Fun K "is_term" "is_term" sTerm f fd) (DL : Df P w K mg base C8.CX0 "laid_or_none" m ["signs", "thing"] (spOrNone K C)) : FnOk P w K mg base C8.CX0 (m + 1) f fd ["signs", "thing"] (spIs K C isTermB) := by
  refine F.ok scTerm (fun vs H Q E h => ?_) (fun cdv A outer s H vs Q E hr h => ?_)
  · obtain ⟨p, L, v, g, rfl, _⟩ := h
    rfl
  · obtain ⟨p, L, v, g, rfl, S, ok, hin, hf, hz, k⟩ := h
    refine ⟨_, pss_cons (ps_set (i := 2) scTerm.nd rfl (Or.inl rfl) (pe_df DL hr pass0 (pa_cons (pv 0) (pa_cons (pv 1) pa_nil)) (Nat.le_refl _)))
      (pss_one (ps_ret (pe_and (pe_cmp (pc_notN (pv 2)) rfl) (pe_one (pe_cmpR (op_eqD hr.units) (pv 2) (pv 1) (nomark _)))))), ?_⟩
    refine ⟨_, rfl, _, rfl, p, L, v, g, rfl, S, ok, hin, hf, hz, fun H1 s1 => ⟨fun e => ?_, fun e v' hv' => ?_⟩⟩
    · refine ⟨_, rfl, _, rfl, ?_⟩
      refine iteF ?_
      have q1 := k H1 s1
      unfold isTermB at q1
      rw [e] at q1
      exact q1
    · obtain ⟨hL, hs, hd⟩ := lay0_less e hf
      have hn := not_non hv' hL.shp
      refine ⟨_, rfl, _, rfl, ?_⟩
      rw [hn]
      refine iteT ?_
      refine ⟨_, rfl, _, rfl, toD (laid L g), toD g, in_dp _ _ hL.shp hv', in_dp _ _ hs (hin.same s1), toD_shaped (by have := hL.dp; omega) hL.shp hL.fine, toD_shaped (by omega) hs hf, ?_⟩
      have q1 := k H1 s1
      unfold isTermB at q1
      rw [e, Bool.true_and] at q1
      exact q1
theorem scAhd : FnScope nAhd ["_law_state", "_law_stock", "_law_loose_here"] (defScope sAhd) := ⟨rfl, rfl, rfl, by decide +kernel, rfl, by decide +kernel, by decide +kernel⟩
theorem ok_ahd {f C CT f1 f2 : Addr} {fd fd1 fd2 : FuncData} {TT : List (Addr × Str)} {n m mb : Nat} (F : Fun K "_law_ahead" "_law_ahead" sAhd f fd) (IH : Df P w K mg base C8.CX0 "_law_ahead" m ["_law_state", "_law_stock", "_law_loose_here"] (spAhd K TT C n))
    (DT : Df P w K mg base C8.CX0 "_law_take" 2 ["_law_state", "_law_size"] spTake) (T : Ct mg)
    (F1 : FnOk P w K mg base (L2.CX P w) mb f1 fd1 ["signs", "draft"] (spAsk K C CT (aLaid K))) (g1 : mg "laid" = some (.ref f1)) (k1 : PySem.W.keepIn K (.ref f1) = true) (b1 : Binds K fd1 ["signs", "draft"] [])
    (F2 : FnOk P w K mg base (L2.CX P w) mb f2 fd2 ["signs", "term"] (spAsk K C CT aText)) (g2 : mg "term_text" = some (.ref f2)) (k2 : PySem.W.keepIn K (.ref f2) = true) (b2 : Binds K fd2 ["signs", "term"] [])
    (DR : Df P w K mg base C8.CX0 "read_term" mb ["signs", "text"] (spRead K C)) (hm : 2 ≤ m) (hmb : mb ≤ m) :
    FnOk P w K mg base C8.CX0 (m + 1) f fd ["_law_state", "_law_stock", "_law_loose_here"] (spAhd K TT C (n + 1)) := by
  refine F.ok scAhd (fun vs H Q E h => ?_) (fun cdv A outer s H vs Q E hr h => ?_)
  · obtain ⟨d, g, c, p, t, L, v, gg, rfl, _⟩ := h
    rfl
  · obtain ⟨d, g, c, p, t, L, v, gg, rfl, W, S, ok, hin, hl, hf, hd, hz, ht, k⟩ := h
    have hr2 : Room 2 _ := hr.mono hm
    have hrb : Room mb _ := hr.mono hmb
    refine ⟨_, pss_cons (ps_if (pt_val (pe_callB call_isi (by rfl) T.isi boot_isinstance (pa_cons (pv 2) (pa_cons (pe_bltn (v := .ty "str") (by rfl) T.str boot_str rfl) pa_nil)))) (pss_one (ps_ret (pv 2))) pss_nil)
      (pss_cons (ps_set (i := 3) scAhd.nd rfl (Or.inl rfl) (pe_df DT hr2 pass0 (pa_cons (pv 0) (pa_cons pe_int pa_nil))))
      (pss_cons (ps_if (pt_cmpR op_eq (pv 3) pe_int (nomark _)) (pss_one (ps_ret (pe_call F1 hrb (by rfl) g1 k1 b1 .nil passX (pa_cons (pv 1) (pa_cons (pv 2) pa_nil))))) pss_nil)
      (pss_cons (ps_if (pt_cmpR op_eq (pv 3) pe_int (nomark _)) (pss_one (ps_ret (pe_df DR hrb pass0 (pa_cons (pv 1) (pa_cons (pe_call F2 hrb (by rfl) g2 k2 b2 .nil passX (pa_cons (pv 1) (pa_cons (pv 2) pa_nil))) pa_nil)) (Nat.le_refl _)))) pss_nil)
      (pss_one (ps_ret (pe_op op_catT (pe_tup (pa_cons (pe_ix ix_tup (pv 2) pe_int (fun _ _ => rfl)) pa_nil)) (pe_callTy call_tuple_of (by rfl) T.tuple boot_tuple (pa_cons (pe_lc (own := [("_law_part", 4)]) (g := gName 4) (tt := tYes) rfl scAhd.nd (pi_tup (pe_slice sl_tup (pv 2) (po_some pe_int) po_none)) (blkOk_by (N := nAhd) (sc := defScope sAhd) (by decide +kernel)) (fun _ _ _ _ _ => pg_name (i := 4) scAhd.nd rfl (Or.inl rfl)) (fun _ _ _ _ _ => pts_nil)
        (fun _ _ _ _ _ => pe_df IH hr pass0 (pa_cons (pv 0) (pa_cons (pv 1) (pa_cons (pv 4) pa_nil))) (Nat.le_refl _))) pa_nil)))))))), ?_⟩
    obtain ⟨dd, t1, t2⟩ := isi_str hin
    have hst := (lay0_st hl).1
    have hsh := (stands_shp _ gg (Nat.le_refl _) hst).1
    refine ⟨_, rfl, _, _, _, _, _, rfl, .ty "str", t1, t2, _, rfl, ?_⟩
    rcases shp_cases hsh with ⟨x, rfl⟩ | ⟨y, ps, rfl, hp⟩
    · exact iteT ⟨_, rfl, k v H ⟨_, hin, Ahd.refl hl hf⟩ (W.mono (by omega)) Kn.refl⟩
    refine iteF ?_
    obtain ⟨a, xs, rfl, hx, hg⟩ := hin.tup
    have hpt := points_t (.s y) ps
    have hsl := sz_len (.s y :: ps)
    refine ⟨_, rfl, d, g, c, t, 3, rfl, W.G, by omega, by decide, by decide, fun way H1 w0 w1 G1 q1 => ?_⟩
    have W1 := W.kp G1 q1
    have n1 : Kn d g H H1 := .kp q1
    have tk1 := W.G.tk n1
    have in1 := in_tk tk1 _ _ hsh hin
    have S1 := (S.ext n1.hid).same hid_le
    refine ⟨_, rfl, rfl, _, rfl, ?_⟩
    refine ite2 (fun _ => ?_) (fun _ => ?_)
    · refine ⟨_, rfl, _, rfl, askT S1 ok in1 hf hz hl fun H2 v' s2 h2 => ?_⟩
      exact k v' H2 ⟨_, h2, Ahd.laid hl hf⟩ ((W1.same s2).mono (by omega)) (n1.trans (.same s2))
    refine ⟨_, rfl, rfl, _, rfl, ?_⟩
    refine ite2 (fun _ => ?_) (fun _ => ?_)
    · refine ⟨_, rfl, _, rfl, _, rfl, askT S1 ok in1 hf hz hl fun H2 v' s2 h2 => ?_⟩
      obtain rfl : v' = .str (text (laid L (.t (.s y :: ps)))) := h2
      have hL := laid_less (L := L) _ _ (Nat.le_refl _) hsh hf
      refine ⟨p, L, laid L (.t (.s y :: ps)), rfl, S1.same s2, ok, hL.fine, by have := hL.sz; omega, lay0_laid hl, fun H3 v3 s3 h3 => ?_⟩
      rw [laid_laid] at h3
      exact k v3 H3 ⟨_, h3, Ahd.laid hl hf⟩ ((W1.same (s2.trans s3)).mono (by omega)) (n1.trans (.same (s2.trans s3)))
    obtain ⟨v0, e0, h0⟩ := hg.get (i := 0) rfl
    obtain rfl := h0.str
    refine ⟨_, rfl, a, xs, 0, _, rfl, rfl, tk1.sqt hx, atI_nat (j := 0) e0, (by show 1 ≤ sizeLine; decide), fun q1' hq1 => ?_⟩
    have s1 := Same.new (o := .tup [.str y]) (Same.refl H1) hq1
    refine ⟨_, rfl, _, rfl, a, xs, rfl, sqt_same s1 (tk1.sqt hx), whole_1 (ne_nil hg), fun q0 hq => ⟨q0, rfl, ⟨_, SqT.of upd_same⟩, fun D hD => ?_⟩⟩
    have s2 := Same.new (o := .tup (cutV xs (some 1) none)) s1 hq
    have W2 := W1.same s2
    have n2 := n1.trans (.same s2)
    have tk2 := W.G.tk n2
    obtain ⟨Dd, Dg⟩ := W2.G.nd hD
    have Dc := W2.G.nc hD
    have hgs : ∀ z ∈ G.s y :: ps, shp z = true := fun z hz => by
      rcases List.mem_cons.mp hz with rfl | hz
      · rw [shp]
      · exact hp z hz
    have hgd := (inL_tk tk2 _ _ hgs hg).drop 1
    rw [← cut_1] at hgd
    have hgd' : InL K (upd (upd H1 q1' (.tup [.str y])) q0 (.tup (cutV xs (some 1) none))) (cutV xs (some 1) none) ps := hgd
    have e1' : (upd (upd H1 q1' (.tup [.str y])) q0 (.tup (cutV xs (some 1) none))) q1' = some (.tup [.str y]) := Same.new (o := .tup (cutV xs (some 1) none)) (Same.refl _) hq _ _ upd_same
    have e0' : (upd (upd H1 q1' (.tup [.str y])) q0 (.tup (cutV xs (some 1) none))) q0 = some (.tup (cutV xs (some 1) none)) := upd_same
    have hlp := lay0_part hl hf
    generalize hH2 : upd (upd H1 q1' (.tup [.str y])) q0 (.tup (cutV xs (some 1) none)) = H2 at *
    have hpl : ps.length ≤ 2000 := by simp only [List.length_cons] at hsl; omega
    have hpn : ptN ps = (ps.map points).sum := rfl
    refine lc_tup (K := K) (a := q0) (xs := cutV xs (some 1) none) (fun i H4 => ∃ ys : List V, H4 D = some (.lst ys) ∧ Wd TT d g c (t + 1 + ptN (ps.take i)) H4 ∧ Kn d g H2 H4 ∧ EachIs (fun y p => AhR K L p H4 y) ys (ps.take i))
      ⟨[], upd_same, (W2.new hD).mono (Nat.le_add_right _ _), Kn.refl.new hD, .nil⟩ (fun i H4 _ ⟨_, _, _, n4, _⟩ => (W2.G.tk n4).sqt (SqT.of e0')) ?_ ?_
    · rintro i x H4 hi ⟨ys, eD, W4, n4, hys⟩
      obtain ⟨p', hpi, hpin⟩ := hgd'.at hi
      have hpm := List.mem_of_getElem? hpi
      have hst2 := sum_take (ns := ps.map points) (i := i) (n := points p') (by rw [List.getElem?_map, hpi]; rfl)
      have hti : ptN (ps.take i) = ((ps.map points).take i).sum := by unfold ptN; rw [List.map_take]
      have hyl := hys.length
      rw [List.length_take] at hyl
      refine ⟨rfl, _, rfl, _, rfl, _, rfl, d, g, c, p, _, L, x, p', rfl, W4, S.ext (n2.trans n4).hid, ok, in_tk (W2.G.tk n4) _ _ (hp p' hpm) hpin, hlp p' hpm, fine_mem hf (List.mem_cons_of_mem _ hpm), dp_mem hd (List.mem_cons_of_mem _ hpm), by have := sz_mem (List.mem_cons_of_mem (.s y) hpm); omega, by omega, fun v' H5 hv W5 n5 => ?_⟩
      have eD5 := n5 D _ Dd Dg eD (by intro _ q; cases q)
      have off : TupK H5 (upd H5 D (.lst (ys ++ [v']))) := (TupK.of (Ext.refl H5)).off eD5
      refine ⟨ys, eD5, by rw [sizeLine_eq]; omega, ys ++ [v'], upd_same, ?_, (n4.trans n5).updD hD, ?_⟩
      · rw [ptN_snoc hpi]
        exact (W5.mono (by omega)).off eD5 Dd Dg Dc
      · rw [take_snoc hpi]
        exact each_app (R := fun y p => AhR K L p _ y) (hv.tk off) (hys.mono fun y p q => q.tk ((W4.G.tk n5).trans off))
    · rintro H4 ⟨ys, eD, W4, n4, hys⟩
      rw [hgd'.len, List.take_length] at W4 hys
      have hyl := hys.length
      refine ⟨D, ys, rfl, .inl ⟨SqL.of eD, fun u hu => ?_⟩⟩
      have s5 := Same.new (o := .tup ys) (Same.refl H4) hu
      have e5 : H4 q1' = some (.tup [.str y]) := by
        have d1 : q1' ≠ d ∧ q1' ≠ g := W2.G.tup e1' (.inl ⟨_, rfl⟩)
        exact n4 _ _ d1.1 d1.2 e1' (by intro _ z; cases z)
      have fin : ∀ (H7 : Hp) (r : Addr), Same H4 H7 → SqT K H7 r (.str y :: ys) → Q (.ref r) H7 := fun H7 r sm hr' => by
        obtain ⟨gs, i1, i2⟩ := ahr_in (hys.mono fun y p q => q.tk (TupK.of (Ext.of sm)))
        exact k _ _ ⟨.t (.s y :: gs), .t hr' (.cons (.s y) i1), Ahd.tup hst (fine_mem hf List.mem_cons_self) i2⟩ ((W4.same sm).mono (by omega)) ((n2.trans n4).trans (.same sm))
      refine ⟨q1', u, [.str y], ys, rfl, rfl, SqT.of (s5 _ _ e5), SqT.of upd_same, by simp, by simp only [List.length_cons, List.length_nil]; rw [sizeLine_eq]; omega, fun e => ?_, fun _ r hr' => ?_⟩
      · refine fin _ _ s5 ?_
        rw [e]
        exact SqT.of (Same.new (o := .tup []) (Same.refl H4) hu _ _ e5)
      · exact fin _ _ (Same.new s5 hr') (SqT.of upd_same)
end
end K1
set_option Elab.async false
set_option linter.all false
set_option maxRecDepth 100000
set_option maxHeartbeats 2000000
namespace K1
open PySem PySem.Spec PyProof.Rows L2
open PySem.W (EachIs)
/-! ### called otherwise -/
abbrev sCld : Stmt := topS 72
abbrev nCld : List Str := ["_law_words_here", "_law_loose_here", "_law_part"]
/-- a dict that tells names for these -/
def Tel (H : Hp) (a : Addr) (xs : List Str) (r : Str → Str) : Prop := ∃ kvs : List (Key × V), H a = some (.dK kvs) ∧ ∀ x ∈ xs, valV kvs (Sum.inr x : Key) = some (.str (r x))
theorem Tel.same {H H' : Hp} {a : Addr} {xs : List Str} {r : Str → Str} (h : Tel H a xs r) (s : Same H H') : Tel H' a xs r := by
  obtain ⟨kvs, h1, h2⟩ := h
  exact ⟨kvs, s _ _ h1, h2⟩
theorem Tel.get {H : Hp} {a : Addr} {xs : List Str} {r : Str → Str} (h : Tel H a xs r) {x : Str} (hx : x ∈ xs) : DGet H a (.str x) (some (.str (r x))) := by
  obtain ⟨kvs, h1, h2⟩ := h
  rw [← h2 x hx]
  exact DGet.k (k := Sum.inr x) h1
def spCld (K : PySem.W.Frag) (n : Nat) : Sp := fun vs H Q _ => ∃ (a : Addr) (L : List Ln) (gs : List Str) (r : Str → Str) (v : V) (g : G), vs = [.ref a, v] ∧ Tel H a (L.map (·.1) ++ gs) r ∧ In K H v g ∧ stands L g = true ∧ Gin gs g ∧ dp g ≤ n ∧ sz g ≤ 2000 ∧ ∀ v' H', Same H H' → In K H' v' (ren r g) → Q v' H'
section
variable {P : Program} {w : World} {K : PySem.W.Frag} {mg : Str → Option Value} {base : Heap}
theorem scCld : FnScope nCld ["_law_words_here", "_law_loose_here"] (defScope sCld) := ⟨rfl, rfl, rfl, by decide +kernel, rfl, by decide +kernel, by decide +kernel⟩
theorem ren_shp (r : Str → Str) (n : Nat) : ∀ g, dp g ≤ n → shp g = true → shp (ren r g) = true := by
  induction n with
  | zero =>
    intro g h
    have := dp_pos g
    omega
  | succ n ih =>
    intro g hd' hs
    rcases shp_cases hs with ⟨x, rfl⟩ | ⟨x, ps, rfl, hp⟩
    · rw [ren_s, shp]
    · rw [ren_t]
      refine shp_mk fun q hq => ?_
      obtain ⟨p, hm, rfl⟩ := List.mem_map.mp hq
      exact ih p (dp_mem hd' (List.mem_cons_of_mem _ hm)) (hp p hm)
theorem ok_cld {f : Addr} {fd : FuncData} {n m : Nat} (F : Fun K "_law_called" "_law_called" sCld f fd) (IH : Df P w K mg base C8.CX0 "_law_called" m ["_law_words_here", "_law_loose_here"] (spCld K n)) (T : Ct mg) :
    FnOk P w K mg base C8.CX0 (m + 1) f fd ["_law_words_here", "_law_loose_here"] (spCld K (n + 1)) := by
  refine F.ok scCld (fun vs H Q E h => ?_) (fun cdv A outer s H vs Q E hr h => ?_)
  · obtain ⟨a, L, gs, r, v, g, rfl, _⟩ := h
    rfl
  · obtain ⟨da, L, gs, r, v, g, rfl, ht, hin, hst, hg', hd, hz, k⟩ := h
    have hu' := hu_of hr
    refine ⟨_, pss_cons (ps_if (pt_val (pe_callB call_isi (by rfl) T.isi boot_isinstance (pa_cons (pv 1) (pa_cons (pe_bltn (v := .ty "str") (by rfl) T.str boot_str rfl) pa_nil)))) (pss_one (ps_ret (pe_dget hu' (pv 0) (pv 1) (fun _ _ => rfl)))) pss_nil)
      (pss_one (ps_ret (pe_op op_catT (pe_tup (pa_cons (pe_dget hu' (pv 0) (pe_ix ix_tup (pv 1) pe_int (fun _ _ => rfl)) (fun _ _ => rfl)) pa_nil)) (pe_callTy call_tuple_of (by rfl) T.tuple boot_tuple (pa_cons (pe_lc (own := [("_law_part", 2)]) (g := gName 2) (tt := tYes) rfl scCld.nd (pi_tup (pe_slice sl_tup (pv 1) (po_some pe_int) po_none)) (blkOk_by (N := nCld) (sc := defScope sCld) (by decide +kernel)) (fun _ _ _ _ _ => pg_name (i := 2) scCld.nd rfl (Or.inl rfl)) (fun _ _ _ _ _ => pts_nil)
        (fun _ _ _ _ _ => pe_df IH hr pass0 (pa_cons (pv 0) (pa_cons (pv 2) pa_nil)) (Nat.le_refl _))) pa_nil))))), ?_⟩
    obtain ⟨dd, t1, t2⟩ := isi_str hin
    have hsh := (stands_shp _ g (Nat.le_refl _) hst).1
    refine ⟨_, rfl, _, _, _, _, _, rfl, .ty "str", t1, t2, _, rfl, ?_⟩
    rcases shp_cases hsh with ⟨x, rfl⟩ | ⟨y, ps, rfl, hp⟩
    · obtain rfl := hin.str
      exact iteT ⟨_, rfl, _, rfl, da, _, rfl, ht.get (List.mem_append_right _ hg'.s), k _ H (Same.refl H) (by rw [ren_s]; exact .s _)⟩
    refine iteF ?_
    obtain ⟨a, xs, rfl, hx, hg⟩ := hin.tup
    have hsl := sz_len (.s y :: ps)
    obtain ⟨v0, e0, h0⟩ := hg.get (i := 0) rfl
    obtain rfl := h0.str
    refine ⟨_, rfl, _, rfl, a, xs, 0, _, rfl, rfl, hx, atI_nat (j := 0) e0, da, _, rfl, ht.get (List.mem_append_left _ (head_name hst)), (by show 1 ≤ sizeLine; decide), fun q1' hq1 => ?_⟩
    have s1 := Same.new (o := .tup [.str (r y)]) (Same.refl H) hq1
    refine ⟨_, rfl, _, rfl, a, xs, rfl, sqt_same s1 hx, whole_1 (ne_nil hg), fun q0 hq => ⟨q0, rfl, ⟨_, SqT.of upd_same⟩, fun D hD => ?_⟩⟩
    have s2 := Same.new (o := .tup (cutV xs (some 1) none)) s1 hq
    have hgd := (hg.same s2).drop 1
    rw [← cut_1] at hgd
    have hgd' : InL K (upd (upd H q1' (.tup [.str (r y)])) q0 (.tup (cutV xs (some 1) none))) (cutV xs (some 1) none) ps := hgd
    have hsp := stands_part hst
    have hpl : ps.length ≤ 2000 := by simp only [List.length_cons] at hsl; omega
    refine lc_in (K := K) (gs := ps) (J := fun H' => Same (upd (upd H q1' (.tup [.str (r y)])) q0 (.tup (cutV xs (some 1) none))) H') (fun H y g => stands L g = true → In K H y (ren r g)) hD (SqT.of upd_same) hgd' (by rw [hgd'.len]; omega) (fun y g H H' h tk h1 => in_tk tk _ _ (ren_shp r _ g (Nat.le_refl _) (stands_shp _ g (Nat.le_refl _) h1).1) (h h1)) (fun _ => rfl) (same_J (H := H) hD) (Same.new (Same.refl _) hD) ?_ ?_
    · intro x g H' hgm hxin e hjj Q' q'
      have hm' : g ∈ G.s y :: ps := List.mem_cons_of_mem _ hgm
      exact ⟨_, rfl, _, rfl, da, L, gs, r, x, g, rfl, (ht.same s2).same hjj, hxin, hsp g hgm, hg'.part g hgm, dp_mem hd hm', by have := sz_mem hm'; omega, fun v' H'' s'' hv' => q' _ _ (.of s'') (hjj.trans s'') fun _ => hv'⟩
    · intro H4 ys e hj4 eD hr'
      have hys : InL K H4 ys (ps.map (ren r)) := each_in (each_fine (P := fun g => stands L g = true) (R := fun _ => True) (hr'.mono fun _ _ h a _ => h a) hsp fun _ _ => trivial)
      refine ⟨D, ys, rfl, .inl ⟨SqL.of eD, fun u hu => ?_⟩⟩
      have s5 := Same.new (o := .tup ys) (Same.refl H4) hu
      have e5 : H4 q1' = some (.tup [.str (r y)]) := hj4 _ _ (Same.new (o := .tup (cutV xs (some 1) none)) (Same.refl _) hq _ _ upd_same)
      have hyl := hys.len
      rw [List.length_map] at hyl
      have fin : ∀ (H7 : Hp) (p : Addr), Same H4 H7 → SqT K H7 p (.str (r y) :: ys) → Q (.ref p) H7 := fun H7 p sm hr' => k _ _ ((s2.trans hj4).trans sm) (by rw [ren_t]; exact .t hr' (.cons (.s _) (hys.same sm)))
      refine ⟨q1', u, [.str (r y)], ys, rfl, rfl, SqT.of (s5 _ _ e5), SqT.of upd_same, by simp, by simp only [List.length_cons, List.length_nil]; rw [sizeLine_eq]; omega, fun e => ?_, fun _ p hr' => ?_⟩
      · refine fin _ _ s5 ?_
        rw [e]
        exact SqT.of (Same.new (o := .tup []) (Same.refl H4) hu _ _ e5)
      · exact fin _ _ (Same.new s5 hr') (SqT.of upd_same)
end
end K1
set_option Elab.async false
set_option linter.all false
set_option maxRecDepth 100000
set_option maxHeartbeats 2000000
namespace K1
open PySem PySem.Spec PyProof.Rows L2
open PySem.W (EachIs)
/-! ### names for signs and gaps, drawn -/
def kvR (ks : List (Str × Str)) : List (Key × V) := ks.map fun p => ((Sum.inr p.1 : Key), V.str p.2)
def rOf : List (Str × Str) → Str → Str
  | [], x => x
  | p :: ks, x => if p.1 = x then p.2 else rOf ks x
theorem rOf_mem : ∀ {ks : List (Str × Str)} {x : Str}, x ∈ ks.map (·.1) → (x, rOf ks x) ∈ ks
  | p :: ks, x, h => by
    unfold rOf
    by_cases e : p.1 = x
    · rw [if_pos e, ← e]
      exact List.mem_cons_self
    · rw [if_neg e]
      rcases List.mem_cons.mp h with h | h
      · exact absurd h.symm e
      · exact List.mem_cons_of_mem _ (rOf_mem h)
theorem rOf_val : ∀ {ks : List (Str × Str)} {x : Str}, x ∈ ks.map (·.1) → valV (kvR ks) (Sum.inr x : Key) = some (.str (rOf ks x))
  | p :: ks, x, h => by
    unfold rOf kvR valV
    rw [List.map_cons, List.find?_cons]
    by_cases e : p.1 = x
    · simp [e]
    · have : decide ((Sum.inr p.1 : Key) = Sum.inr x) = false := decide_eq_false fun z => e (Sum.inr.inj z)
      simp only [this, if_neg e]
      rcases List.mem_cons.mp h with h | h
      · exact absurd h.symm e
      · exact rOf_val h
theorem nd_snd : ∀ {ks : List (Str × Str)} {p q : Str × Str}, (ks.map (·.2)).Nodup → p ∈ ks → q ∈ ks → p.2 = q.2 → p = q
  | m :: ks, p, q, hn, hp, hq, e => by
    rw [List.map_cons, List.nodup_cons] at hn
    rcases List.mem_cons.mp hp with rfl | hp <;> rcases List.mem_cons.mp hq with rfl | hq
    · rfl
    · exact (hn.1 (List.mem_map.mpr ⟨q, by assumption, e.symm⟩)).elim
    · exact (hn.1 (List.mem_map.mpr ⟨p, by assumption, e⟩)).elim
    · exact nd_snd hn.2 hp hq e
theorem rOf_inj {ks : List (Str × Str)} (hn : (ks.map (·.2)).Nodup) {x y : Str} (hx : x ∈ ks.map (·.1)) (hy : y ∈ ks.map (·.1)) (e : rOf ks x = rOf ks y) : x = y := congrArg Prod.fst (nd_snd hn (rOf_mem hx) (rOf_mem hy) e)
theorem put_new {ks : List (Str × Str)} {x w : Str} (h : x ∉ ks.map (·.1)) : putK (kvR ks) (Sum.inr x : Key) (.str w) = kvR (ks ++ [(x, w)]) := by
  unfold putK
  have : ((kvR ks).any fun kv => decide (kv.1 = (Sum.inr x : Key))) = false := by
    rw [List.any_eq_false]
    intro kv hkv
    obtain ⟨p, hp, rfl⟩ := List.mem_map.mp hkv
    simp only [decide_eq_true_iff]
    exact fun z => h (List.mem_map.mpr ⟨p, hp, Sum.inr.inj z⟩)
  rw [this]
  unfold kvR
  rw [List.map_append]
  rfl
theorem name_gap {x : Str} (h1 : nameB x = true) (h2 : gapB x = true) : False := by
  have hb : ∀ c ∈ bigs.cps.toList, isLow c = false := by decide +kernel
  have h0 : ¬ (0 ∈ bigs.cps.toList) := by decide +kernel
  unfold nameB at h1
  unfold gapB at h2
  rw [Bool.and_eq_true_iff, List.all_eq_true] at h1
  rw [Bool.and_eq_true_iff, Bool.and_eq_true_iff, decide_eq_true_iff, decide_eq_true_iff] at h2
  cases e : x.cps.toList with
  | nil =>
    rw [e] at h2
    exact h0 h2.2.1
  | cons c cs =>
    rw [e] at h1 h2
    have := hb c h2.2.1
    rw [h1.2 c List.mem_cons_self] at this
    cases this
theorem erase_map {α β : Type} (f : α → β) : ∀ (l : List α) (k : Nat), (l.eraseIdx k).map f = (l.map f).eraseIdx k
  | [], _ => rfl
  | _ :: _, 0 => rfl
  | a :: l, k + 1 => by simp only [List.eraseIdx_cons_succ, List.map_cons, erase_map f l k]
abbrev blanks5 : List Str := ["Ax", "Z", "Bbbb", "C", "Mm"]
theorem blanks_ok : blanks5.Nodup ∧ ∀ b ∈ blanks5, gapB b = true := by decide +kernel
theorem GB_ok : ∀ b ∈ GB, gapB b = true := by decide +kernel
theorem Wd.offK {TT : List (Addr × Str)} {d g c p : Addr} {zs : List (Key × V)} {o : HO} {t : Nat} {H : Hp} (w : Wd TT d g c t H) (e : H p = some (.dK zs)) (hd : p ≠ d) (hg : p ≠ g) (hc : p ≠ c) : Wd TT d g c t (upd H p o) := by
  refine ⟨w.G.off hd hg hc, fun q hq => ?_⟩
  obtain ⟨ps, h1, h2, h3⟩ := w.T q hq
  have off : ∀ {b : Addr} {u : HO}, H b = some u → (∀ xs, u ≠ .dK xs) → upd H p o b = some u := fun {b u} q n => by
    rw [upd_ne (fun z => by rw [z, e] at q; exact n _ (Option.some.inj q).symm)]
    exact q
  refine ⟨ps, off h1 (by intro _ z; cases z), h2, fun pos cv hc => ?_⟩
  obtain ⟨cc, rfl, q⟩ := h3 pos cv hc
  exact ⟨cc, rfl, off q (by intro _ z; cases z)⟩
theorem hid_dK {d g c p : Addr} {t : Nat} {H : Hp} {o : HO} (G : Gen d g c t H) (h : H p = none) : p ≠ d ∧ p ≠ g := G.nd h
abbrev sCgs : Stmt := topS 73
abbrev nCgs : List Str := ["_law_state", "_law_lines", "_law_loose_here", "_law_left", "_law_found", "_law_word", "_law_kind", "_law_many", "_law_blanks", "_law_blank"]
structure Cgs (L : List Ln) (gs : List Str) (r : Str → Str) : Prop where
  inj : ∀ x ∈ L.map (·.1) ++ gs, ∀ y ∈ L.map (·.1) ++ gs, r x = r y → x = y
  nm : ∀ x ∈ L.map (·.1), nameB (r x) = true
  gp : ∀ x ∈ gs, gapB (r x) = true
def spCgs (K : PySem.W.Frag) (TT : List (Addr × Str)) (n : Nat) : Sp := fun vs H Q _ => ∃ (d g c ll : Addr) (t : Nat) (L : List Ln) (xs : List V) (v : V) (gg : G), vs = [.ref d, .ref ll, v] ∧ Wd TT d g c t H ∧ hid [d, g] H ll = some (.lst xs) ∧ DpAll K (hid [d, g] H) xs (L.map rowD) ∧ Sg L ∧ In K H v gg ∧ shp gg = true ∧ GpB gg ∧ dp gg ≤ n ∧ sz gg ≤ 2000 ∧ t + 320 < 2 ^ 30 ∧
  ∀ p gs r H', Tel (hid [d, g] H') p (L.map (·.1) ++ gs) r → Cgs L gs r → (∀ x, x ∈ gs ↔ x ∈ gapsOf gg) → Wd TT d g c (t + 320) H' → Kn d g H H' → Q (.ref p) H'
section
variable {P : Program} {w : World} {K : PySem.W.Frag} {mg : Str → Option Value} {base : Heap}
theorem scCgs : FnScope nCgs ["_law_state", "_law_lines", "_law_loose_here"] (defScope sCgs) := ⟨rfl, rfl, rfl, by decide +kernel, rfl, by decide +kernel, by decide +kernel⟩
theorem ok_cgs {f : Addr} {fd : FuncData} {TT : List (Addr × Str)} {n m : Nat} (F : Fun K "_law_callings" "_law_callings" sCgs f fd)
    (DT : Df P w K mg base C8.CX0 "_law_take" 2 ["_law_state", "_law_size"] spTake) (DW : Df P w K mg base C8.CX0 "_law_words" 3 ["_law_state", "_law_size"] spWords) (DG : Df P w K mg base C8.CX0 "_law_gaps" m ["_law_tree"] (spLGaps K n)) (T : Ct mg) (hm : 3 ≤ m) :
    FnOk P w K mg base C8.CX0 (m + 1) f fd ["_law_state", "_law_lines", "_law_loose_here"] (spCgs K TT n) := by
  refine F.ok scCgs (fun vs H Q E h => ?_) (fun cdv A outer s H vs Q E hr h => ?_)
  · obtain ⟨d, g, c, ll, t, L, xs, v, gg, rfl, _⟩ := h
    rfl
  · obtain ⟨d, g, c, ll, t, L, xs, v, gg, rfl, W, hx, hdp, S, hin, hsh, hgb, hd, hz, ht, k⟩ := h
    have hr3 : Room 3 _ := hr.mono hm
    have hu' := hu_of hr
    refine ⟨_, pss_cons (ps_par (i := 3) (j := 4) (by rfl) scCgs.nd rfl rfl (by decide) rfl rfl (pa_cons (pe_df DW hr3 pass0 (pa_cons (pv 0) (pa_cons (pe_callB call_len_seq (by rfl) T.len PySem.boot_len (pa_cons (pv 1) pa_nil)) pa_nil))) (pa_cons pe_dnewK pa_nil)) (by rfl))
      (pss_cons (ps_for PassesOwn.never rfl (pi_list (pv 1)) (pg_tup rfl (pgs_cons (pg_name (i := 5) scCgs.nd rfl (Or.inl rfl)) (pgs_cons (pg_name (i := 6) scCgs.nd rfl (Or.inl rfl)) (pgs_cons (pg_name (i := 7) scCgs.nd rfl (Or.inl rfl)) pgs_nil))))
        (pss_one (ps_dput hu' (pv 4) (pv 5) (pe_bm PySem.F.plainAttrs_list PySem.F.slot_list_pop PySem.F.type_list_pop mt_popAt (pv 3) (pa_cons (pe_df DT hr3 pass0 (pa_cons (pv 0) (pa_cons (pe_callB call_len_seq (by rfl) T.len PySem.boot_len (pa_cons (pv 3) pa_nil)) pa_nil))) pa_nil)) rfl)))
      (pss_cons (ps_set (i := 8) scCgs.nd rfl (Or.inl rfl) (pe_lst (pa_cons pe_str (pa_cons pe_str (pa_cons pe_str (pa_cons pe_str (pa_cons pe_str pa_nil)))))))
      (pss_cons (ps_for PassesOwn.never rfl (pi_list (pe_df DG hr pass0 (pa_cons (pv 2) pa_nil) (Nat.le_refl _))) (pg_name (i := 9) scCgs.nd rfl (Or.inl rfl))
        (pss_one (ps_dput hu' (pv 4) (pv 9) (pe_bm PySem.F.plainAttrs_list PySem.F.slot_list_pop PySem.F.type_list_pop mt_popAt (pv 8) (pa_cons (pe_df DT hr3 pass0 (pa_cons (pv 0) (pa_cons (pe_callB call_len_seq (by rfl) T.len PySem.boot_len (pa_cons (pv 8) pa_nil)) pa_nil))) pa_nil)) rfl)))
      (pss_one (ps_ret (pv 4)))))), ?_⟩
    obtain ⟨lld, llg, hx0⟩ := hid_got hx
    have hxl : xs.length = L.length := by
      have := dpAll_len hdp
      rw [List.length_map] at this
      exact this
    have hL := S.ok.len
    refine ⟨_, rfl, _, rfl, ll, xs, rfl, .inl (SqL.of hx0), d, g, c, t, xs.length, rfl, W.G, by omega, by omega, fun lw ws H1 wl wn ww ew hw0 G1 q1 => ?_⟩
    obtain ⟨wd, wg⟩ := W.G.nd hw0
    have W1 := W.kp G1 q1
    have n1 : Kn d g H H1 := .kp q1
    refine fun fo hfo => ⟨_, _, rfl, ?_⟩
    have s2 := Same.new (o := .dK []) (Same.refl H1) hfo
    obtain ⟨fd', fg⟩ := W1.G.nd hfo
    have fc := W1.G.nc hfo
    have W2 := W1.same s2
    have nwf : lw ≠ fo := ne_of_none ew hfo
    refine ⟨_, rfl, ll, rfl, ⟨_, SqL.of (q1 _ _ lld llg hx0 |> s2 _ _)⟩, for_list (K := K) (a := ll) (xs := xs) (fun i σ H' => ∃ (v5 v6 v7 : Option V) (ks : List (Str × Str)) (us : List Str), σ = [some (.ref d), some (.ref ll), some v, some (.ref lw), some (.ref fo), v5, v6, v7, none, none] ∧ Wd TT d g c (t + 11 * xs.length + i) H' ∧ Kn d g H H' ∧ H' lw = some (.lst (us.map V.str)) ∧ H' fo = some (.dK (kvR ks)) ∧ ks.map (·.1) = (L.map (·.1)).take i ∧ ws.Perm (ks.map (·.2) ++ us))
      ⟨none, none, none, [], ws, rfl, W2.mono (by omega), n1.trans (.same s2), s2 _ _ ew, upd_same, by simp, by simp⟩ (fun i σ H' _ ⟨_, _, _, _, _, _, _, n, _⟩ => SqL.of (n _ _ lld llg hx0 (by intro _ z; cases z))) ?_ ?_⟩
    · rintro i x σ H' hi ⟨v5, v6, v7, ks, us, rfl, W', n', ew', ef', hk, hp⟩
      have hil := (List.getElem?_eq_some_iff.mp hi).1
      obtain ⟨l, hli, hld⟩ := dpr_at (dpr_ext n'.hid _ hdp) hi
      obtain ⟨b, rfl, hb⟩ := row_at (dp_same hid_le _ _ hld)
      have hkl := congrArg List.length hk
      rw [List.length_map, List.length_take, List.length_map] at hkl
      have hpl := hp.length_eq
      rw [List.length_append, List.length_map] at hpl
      refine ⟨b, _, rfl, hb, rfl, _, _, rfl, _, _, rfl, _, _, rfl, rfl, ?_⟩
      refine ⟨_, rfl, .inl ⟨rfl, _, SqL.of ew'⟩, _, rfl, _, rfl, lw, _, rfl, .inl (SqL.of ew'), d, g, c, _, _, rfl, W'.G, by omega, by rw [List.length_map]; omega, by rw [List.length_map]; omega, fun u H3 u0 u1 G3 q3 => ?_⟩
      rw [List.length_map] at u1
      have ew3 := q3 _ _ wd wg ew'
      have ef3 := q3 _ _ fd' fg ef'
      have W3 := W'.kp G3 q3
      obtain ⟨y', hy'⟩ : ∃ y', us[u.toNat]? = some y' := ⟨us[u.toNat]'(by omega), List.getElem?_eq_getElem (by omega)⟩
      have hy2 : (us.map V.str)[u.toNat]? = some (V.str y') := by rw [List.getElem?_map, hy']; rfl
      refine ⟨lw, us.map V.str, u, u.toNat, .str y', rfl, rfl, ew3, by omega, by omega, seq_ix u0 (by rw [List.length_map]; exact u1), hy2, ?_⟩
      have ef4 : (upd H3 lw (.lst ((us.map V.str).eraseIdx u.toNat))) fo = some (.dK (kvR ks)) := by rw [upd_ne nwf.symm]; exact ef3
      refine ⟨_, rfl, _, rfl, fo, _, rfl, DPut.k (k := Sum.inr l.1) ef4 (by unfold kvR; rw [List.length_map, sizeLine_eq]; omega), ?_⟩
      have hnew : l.1 ∉ ks.map (·.1) := by
        rw [hk]
        intro hm
        have hnd := S.nd
        have e1 : (L.map (·.1))[i]? = some l.1 := by rw [List.getElem?_map, hli]; rfl
        have e2 := take_snoc e1
        have h3 : ((L.map (·.1)).take (i + 1)).Nodup := hnd.sublist (List.take_sublist _ _)
        rw [e2] at h3
        exact (List.nodup_append.mp h3).2.2 _ hm _ (List.mem_singleton.mpr rfl) rfl
      rw [put_new hnew]
      refine ⟨_, _, _, ks ++ [(l.1, y')], us.eraseIdx u.toNat, rfl, ?_, ?_, ?_, upd_same, ?_, ?_⟩
      · have w5 := (W3.off (o := .lst ((us.map V.str).eraseIdx u.toNat)) ew3 wd wg (W.G.nc hw0)).mono (t' := t + 11 * xs.length + (i + 1)) (by omega)
        exact Wd.offK w5 ef4 fd' fg fc
      · exact ((n'.trans (.kp q3)).updF Kn.refl hw0).updF n1 hfo
      · rw [upd_ne nwf, upd_same, erase_map]
      · rw [List.map_append, hk, List.map_cons, List.map_nil]
        exact (take_snoc (by rw [List.getElem?_map, hli]; rfl)).symm
      · rw [List.map_append, List.append_assoc]
        exact hp.trans ((pop_perm hy').append_left _)
    rintro σ H' ⟨v5, v6, v7, ks, us, rfl, W', n', ew', ef', hk, hp⟩
    rw [hxl] at hk
    rw [List.take_of_length_le (by rw [List.length_map]; exact Nat.le_refl _)] at hk
    have tk' := W.G.tk n'
    refine ⟨(by show 5 ≤ sizeLine; decide), fun bo hbo => ?_⟩
    have s5 := Same.new (o := .lst [.str "Ax", .str "Z", .str "Bbbb", .str "C", .str "Mm"]) (Same.refl H') hbo
    obtain ⟨bd, bg⟩ := W'.G.nd hbo
    have bc := W'.G.nc hbo
    have nbf : bo ≠ fo := fun z => by rw [z, ef'] at hbo; cases hbo
    refine ⟨_, rfl, v, gg, rfl, (in_tk tk' _ _ hsh hin).same s5, hsh, hd, hz, fun la gs H6 s6 hla ela nd ri mem => ?_⟩
    obtain ⟨lad, lag⟩ := (W'.same s5).G.nd hla
    have W6 := (W'.same s5).same s6
    have n6 := n'.trans (.same (s5.trans s6))
    have eb6 : H6 bo = some (.lst (blanks5.map V.str)) := s6 _ _ upd_same
    have ef6 := s6 _ _ (s5 _ _ ef')
    have nbl : bo ≠ la := ne_of_none upd_same hla
    have nlf : la ≠ fo := fun z => by rw [z, s5 _ _ ef'] at hla; cases hla
    have hgs : gs.length ≤ 3 := nodup_len nd fun x hx => hgb x ((mem x).mp hx)
    have foN : H fo = none := by
      cases e : H fo with
      | none => rfl
      | some o =>
        obtain ⟨z1, z2⟩ : fo ≠ d ∧ fo ≠ g := ⟨fd', fg⟩
        rw [q1 _ _ z1 z2 e] at hfo
        cases hfo
    have boN : ∀ o, H bo = some o → (∀ ps, o ≠ .tbl ps) → False := fun o e hn => by
      rw [n' _ _ bd bg e hn] at hbo
      cases hbo
    refine ⟨la, rfl, ⟨_, SqL.of ela⟩, for_list (K := K) (a := la) (xs := gs.map V.str) (fun i σ H' => ∃ (v9 : Option V) (ks' : List (Str × Str)) (us : List Str), σ = [some (.ref d), some (.ref ll), some v, some (.ref lw), some (.ref fo), v5, v6, v7, some (.ref bo), v9] ∧ Wd TT d g c (t + 11 * xs.length + xs.length + i) H' ∧ Kn d g H H' ∧ H' la = some (.lst (gs.map V.str)) ∧ H' bo = some (.lst (us.map V.str)) ∧ H' fo = some (.dK (kvR (ks ++ ks'))) ∧ ks'.map (·.1) = gs.take i ∧ blanks5.Perm (ks'.map (·.2) ++ us))
      ⟨none, [], blanks5, rfl, W6.mono (by omega), n6, ela, eb6, by rw [List.append_nil]; exact ef6, by simp, by simp⟩ (fun i σ H' _ ⟨_, _, _, _, _, _, e, _⟩ => SqL.of e) ?_ ?_⟩
    · rintro i x σ H7 hi ⟨v9, ks', us', rfl, W7, n7, el7, eb7, ef7, hk', hp'⟩
      rw [List.getElem?_map, Option.map_eq_some_iff] at hi
      obtain ⟨b, hb, rfl⟩ := hi
      have hil := (List.getElem?_eq_some_iff.mp hb).1
      have hkl := congrArg List.length hk'
      rw [List.length_map, List.length_take] at hkl
      have hpl := hp'.length_eq
      rw [List.length_append, List.length_map] at hpl
      have h5 : blanks5.length = 5 := rfl
      refine ⟨_, rfl, .inl ⟨rfl, _, SqL.of eb7⟩, _, rfl, _, rfl, bo, _, rfl, .inl (SqL.of eb7), d, g, c, _, _, rfl, W7.G, by omega, by rw [List.length_map]; omega, by rw [List.length_map]; omega, fun u H3 u0 u1 G3 q3 => ?_⟩
      rw [List.length_map] at u1
      have eb3 := q3 _ _ bd bg eb7
      have ef3 := q3 _ _ fd' fg ef7
      have el3 := q3 _ _ lad lag el7
      have W3 := W7.kp G3 q3
      obtain ⟨y', hy'⟩ : ∃ y', us'[u.toNat]? = some y' := ⟨us'[u.toNat]'(by omega), List.getElem?_eq_getElem (by omega)⟩
      have hy2 : (us'.map V.str)[u.toNat]? = some (V.str y') := by rw [List.getElem?_map, hy']; rfl
      refine ⟨bo, us'.map V.str, u, u.toNat, .str y', rfl, rfl, eb3, by omega, by omega, seq_ix u0 (by rw [List.length_map]; exact u1), hy2, ?_⟩
      have ef4 : (upd H3 bo (.lst ((us'.map V.str).eraseIdx u.toNat))) fo = some (.dK (kvR (ks ++ ks'))) := by rw [upd_ne nbf.symm]; exact ef3
      have hksl : ks.length ≤ 24 := by
        have := congrArg List.length hk
        rw [List.length_map, List.length_map] at this
        omega
      refine ⟨_, rfl, _, rfl, fo, _, rfl, DPut.k (k := Sum.inr b) ef4 (by unfold kvR; rw [List.length_map, List.length_append, sizeLine_eq]; omega), ?_⟩
      have hbm := List.mem_of_getElem? hb
      have hnew : b ∉ (ks ++ ks').map (·.1) := by
        rw [List.map_append, hk, hk']
        intro hm
        rcases List.mem_append.mp hm with hm | hm
        · obtain ⟨l, hl, e⟩ := List.mem_map.mp hm
          exact name_gap (by rw [← e]; exact S.ok.nm l hl) (GB_ok b (hgb b ((mem b).mp hbm)))
        · have h3 : (gs.take (i + 1)).Nodup := nd.sublist (List.take_sublist _ _)
          rw [take_snoc hb] at h3
          exact (List.nodup_append.mp h3).2.2 _ hm _ (List.mem_singleton.mpr rfl) rfl
      rw [put_new hnew]
      refine ⟨_, ks' ++ [(b, y')], us'.eraseIdx u.toNat, rfl, ?_, ?_, ?_, ?_, ?_, ?_, ?_⟩
      · exact Wd.offK ((W3.off (o := .lst ((us'.map V.str).eraseIdx u.toNat)) eb3 bd bg bc).mono (t' := t + 11 * xs.length + xs.length + (i + 1)) (by omega)) ef4 fd' fg fc
      · intro b' o' h1 h2 e h3
        have e3 := (n7.trans (.kp q3)) b' o' h1 h2 e h3
        rw [upd_ne (fun z => by rw [z, foN] at e; cases e), upd_ne (fun z => by subst z; exact boN _ e h3)]
        exact e3
      · rw [upd_ne nlf, upd_ne nbl.symm]
        exact el3
      · rw [upd_ne nbf, upd_same, erase_map]
      · rw [upd_same, List.append_assoc]
      · rw [List.map_append, hk', List.map_cons, List.map_nil]
        exact (take_snoc hb).symm
      · rw [List.map_append, List.append_assoc]
        exact hp'.trans ((pop_perm hy').append_left _)
    rintro σ H7 ⟨v9, ks', us', rfl, W7, n7, el7, eb7, ef7, hk', hp'⟩
    rw [List.length_map, List.take_length] at hk'
    have hgl : (gs.map V.str).length ≤ 3 := by rw [List.length_map]; exact hgs
    have ek : (ks ++ ks').map (·.1) = L.map (·.1) ++ gs := by rw [List.map_append, hk, hk']
    have v1 : ∀ y ∈ ks.map (·.2), nameB y = true := fun y hy => ww y (hp.mem_iff.mpr (List.mem_append_left _ hy))
    have v2 : ∀ y ∈ ks'.map (·.2), gapB y = true := fun y hy => blanks_ok.2 y (hp'.mem_iff.mpr (List.mem_append_left _ hy))
    have hv : ((ks ++ ks').map (·.2)).Nodup := by
      rw [List.map_append, List.nodup_append]
      exact ⟨(List.nodup_append.mp (hp.nodup_iff.mp wn)).1, (List.nodup_append.mp (hp'.nodup_iff.mp blanks_ok.1)).1, fun y hy z hz e => name_gap (v1 y hy) (v2 y (by rw [e]; exact hz))⟩
    refine ⟨_, rfl, k fo gs (rOf (ks ++ ks')) H7 ⟨kvR (ks ++ ks'), hid_get fd' fg ef7, fun x hx => rOf_val (by rw [ek]; exact hx)⟩ ⟨fun x hx y hy e => rOf_inj hv (by rw [ek]; exact hx) (by rw [ek]; exact hy) e, fun x hx => ?_, fun x hx => ?_⟩ mem (W7.mono (by omega)) n7⟩
    · have h1 : x ∈ (ks ++ ks').map (·.1) := by rw [ek]; exact List.mem_append_left _ hx
      have h2 := rOf_mem h1
      rcases List.mem_append.mp h2 with h3 | h3
      · exact v1 _ (List.mem_map.mpr ⟨_, h3, rfl⟩)
      · exfalso
        have h4 : x ∈ gs := by
          rw [← hk']
          exact List.mem_map.mpr ⟨_, h3, rfl⟩
        obtain ⟨l, hl, e⟩ := List.mem_map.mp hx
        exact name_gap (by rw [← e]; exact S.ok.nm l hl) (GB_ok x (hgb x ((mem x).mp h4)))
    · have h1 : x ∈ (ks ++ ks').map (·.1) := by rw [ek]; exact List.mem_append_right _ hx
      have h2 := rOf_mem h1
      rcases List.mem_append.mp h2 with h3 | h3
      · exfalso
        have h4 : x ∈ L.map (·.1) := by
          rw [← hk]
          exact List.mem_map.mpr ⟨_, h3, rfl⟩
        obtain ⟨l, hl, e⟩ := List.mem_map.mp h4
        exact name_gap (by rw [← e]; exact S.ok.nm l hl) (GB_ok x (hgb x ((mem x).mp hx)))
      · exact v2 _ (List.mem_map.mpr ⟨_, h3, rfl⟩)
end
end K1
set_option Elab.async false
set_option linter.all false
set_option maxRecDepth 100000
set_option maxHeartbeats 4000000
namespace K1
open PySem PySem.Spec PyProof.Rows L2
open PySem.W (EachIs)
/-! ### the same by names -/
noncomputable instance instDecG : DecidableEq G := fun _ _ => Classical.propDecidable _
/-! ### things as data are equal just where they are the same -/
theorem eqvAll_toD {as : List G} : ∀ {bs : List G}, (∀ a ∈ as, ∀ b ∈ bs, PyData.eqv (toD a) (toD b) = decide (a = b)) → PyData.eqvAll (as.map toD) (bs.map toD) = decide (as = bs) := by
  induction as with
  | nil =>
    intro bs _
    cases bs <;> simp [PyData.eqvAll]
  | cons a as ih =>
    intro bs h
    cases bs with
    | nil => simp [PyData.eqvAll]
    | cons b bs =>
      rw [List.map_cons, List.map_cons, PyData.eqvAll, h a List.mem_cons_self b List.mem_cons_self, ih fun x hx y hy => h x (List.mem_cons_of_mem _ hx) y (List.mem_cons_of_mem _ hy)]
      by_cases e1 : a = b <;> by_cases e2 : as = bs <;> simp [e1, e2]
theorem eqv_toD (n : Nat) : ∀ a b : G, dp a ≤ n → shp a = true → shp b = true → PyData.eqv (toD a) (toD b) = decide (a = b) := by
  induction n with
  | zero =>
    intro a b h
    have := dp_pos a
    omega
  | succ n ih =>
    intro a b hd' ha hb
    rcases shp_cases ha with ⟨x, rfl⟩ | ⟨x, ps, rfl, hp⟩ <;> rcases shp_cases hb with ⟨y, rfl⟩ | ⟨y, qs, rfl, hq⟩
    · rw [toD, toD]
      show (x == y) = _
      by_cases e : x = y <;> simp [e]
    · simp [toD, PyData.eqv]
    · simp [toD, PyData.eqv]
    · rw [toD, toD]
      show PyData.eqvAll (List.map toD _) (List.map toD _) = _
      rw [eqvAll_toD fun p hp' q hq' => ?_]
      · by_cases e : (G.s x :: ps) = (G.s y :: qs) <;> simp [e]
      · rcases List.mem_cons.mp hp' with rfl | hp'
        · rcases List.mem_cons.mp hq' with rfl | hq'
          · rw [toD, toD]
            show (x == y) = _
            by_cases e : x = y <;> simp [e]
          · rcases shp_cases (hq q hq') with ⟨z, rfl⟩ | ⟨z, rs, rfl, _⟩
            · rw [toD, toD]
              show (x == z) = _
              by_cases e : x = z <;> simp [e]
            · simp [toD, PyData.eqv]
        · have hsq : shp q = true := by
            rcases List.mem_cons.mp hq' with rfl | hq'
            · rw [shp]
            · exact hq q hq'
          exact ih p q (dp_mem hd' (List.mem_cons_of_mem _ hp')) (hp p hp') hsq
/-- a == b, of things -/
theorem eq_go {K : PySem.W.Frag} {H : Hp} {v u : V} {a b : G} {Q : VK} (ha : In K H v a) (hb : In K H u b) (sa : shp a = true) (sb : shp b = true) (fa : fine a = true) (fb : fine b = true) (da : dp a ≤ 60) (db : dp b ≤ 60) (q : Q (.bl (decide (a = b))) H) : rEqD K v u H Q :=
  ⟨toD a, toD b, in_dp _ _ sa ha, in_dp _ _ sb hb, toD_shaped da sa fa, toD_shaped db sb fb, by rw [eqv_toD _ _ _ (Nat.le_refl _) sa sb]; exact q⟩
theorem ne_go {K : PySem.W.Frag} {H : Hp} {v u : V} {a b : G} {Q : VK} (ha : In K H v a) (hb : In K H u b) (sa : shp a = true) (sb : shp b = true) (fa : fine a = true) (fb : fine b = true) (da : dp a ≤ 60) (db : dp b ≤ 60) (q : Q (.bl (!decide (a = b))) H) : rNeD K v u H Q :=
  ⟨toD a, toD b, in_dp _ _ sa ha, in_dp _ _ sb hb, toD_shaped da sa fa, toD_shaped db sb fb, by rw [eqv_toD _ _ _ (Nat.le_refl _) sa sb]; exact q⟩
theorem kd_ne {L : List Ln} {g c : Addr} {r t : Int} : kd L ≠ stK g c r t := by
  cases L with
  | nil => intro z; cases z
  | cons l L =>
    intro z
    have := congrArg (fun q => q.head?) z
    simp [kd, stK] at this
theorem Sg.data {L : List Ln} (S : Sg L) : okD (.list (L.map rowD)) = true := by
  have hl2 := S.ok.len
  have key : ∀ e ∈ L.map rowD, fineD e = true ∧ PyData.canLay0 e = true ∧ PyData.depth e ≤ 20 := fun e he => by
    obtain ⟨l, hl, rfl⟩ := List.mem_map.mp he
    obtain ⟨_, _, k1, k2⟩ := kinds_ok _ (S.ok.kd l hl)
    obtain ⟨f1, f2⟩ := name_fine (S.ok.nm l hl)
    obtain ⟨n, k, m⟩ := l
    refine ⟨?_, ?_, ?_⟩
    · simp only [rowD, fineD, fineAll, List.length_cons, List.length_nil, Bool.and_eq_true, decide_eq_true_iff]
      simp only at f1 k1
      refine ⟨by omega, by omega, by omega, trivial, trivial⟩
    · simp only [rowD, PyData.canLay0, PyData.canLayAll0, Bool.and_eq_true]
      exact ⟨f2, k2, trivial, trivial⟩
    · simp [rowD, PyData.depth, PyData.depthAll]
  refine ok_of ?_ ?_ ?_
  · simp only [PyData.canLay0]
    exact layAll_of fun e he => (key e he).2.1
  · show (decide ((L.map rowD).length ≤ 1000) && fineAll (L.map rowD)) = true
    rw [List.length_map, decide_eq_true (by omega : L.length ≤ 1000), fineAll_of fun e he => (key e he).1]
    rfl
  · have := depAll_of (n := 20) fun e he => (key e he).2.2
    simp only [PyData.depth]
    omega
/-- signs stand apart from what is drawn from -/
theorem sgl_hid {K : PySem.W.Frag} {C x rt td d g c : Addr} {ys : List V} {L : List Ln} {H : Hp} {t : Nat} (A : SgAt K C H x rt td ys (L.map (·.1))) (D : DpAll K H ys (L.map rowD)) (G : Gen d g c t H) (xd : x ≠ d) (xg : x ≠ g) (td1 : td ≠ d) (tg1 : td ≠ g) : SgL K C (hid [d, g] H) x L := by
  obtain ⟨dx, h1⟩ := A.ob
  exact ⟨rt, td, ys, ⟨⟨dx, hid_get xd xg h1⟩, G.tkh.sqt A.rt, hid_get td1 tg1 A.td, A.len, A.nd⟩, dpr_tk G.tkh _ D⟩
theorem gaps_fine (n : Nat) : ∀ g, dp g ≤ n → fine g = true → ∀ x ∈ gapsOf g, x.length ≤ 10 ∧ PyData.strOk x = true := by
  induction n with
  | zero =>
    intro g h
    have := dp_pos g
    omega
  | succ n ih =>
    intro g hd hf x hx
    cases g with
    | s y =>
      rw [gapsOf_s, List.mem_singleton] at hx
      simp only [fine, Bool.and_eq_true, decide_eq_true_iff] at hf
      rw [hx]
      exact hf
    | l ps => simp [gapsOf] at hx
    | o d => simp [gapsOf] at hx
    | t ps =>
      cases ps with
      | nil => simp [gapsOf] at hx
      | cons h ps =>
        rw [gapsOf_t, List.mem_flatten] at hx
        obtain ⟨l, hl, hxl⟩ := hx
        obtain ⟨p, hp, rfl⟩ := List.mem_map.mp hl
        exact ih p (dp_mem hd (List.mem_cons_of_mem _ hp)) (fine_mem hf (List.mem_cons_of_mem _ hp)) x hxl
theorem dp_strs {K : PySem.W.Frag} {H : Hp} : ∀ xs : List Str, DpAll K H (xs.map V.str) (xs.map PyData.str)
  | [] => .nil
  | x :: r => .cons (.str x) (dp_strs r)
theorem strs_shaped {xs : List Str} (h : ∀ x ∈ xs, PyData.strOk x = true) : SeqAt.shaped (.list (xs.map PyData.str)) = true := by
  have h1 : PyData.canLay0 (.list (xs.map PyData.str)) = true := by
    simp only [PyData.canLay0]
    refine layAll_of fun e he => ?_
    obtain ⟨x, hx, rfl⟩ := List.mem_map.mp he
    exact h x hx
  have h2 := depAll_of (n := 20) (ds := xs.map PyData.str) fun e he => by
    obtain ⟨x, hx, rfl⟩ := List.mem_map.mp he
    simp [PyData.depth]
  unfold SeqAt.shaped
  rw [h1, Bool.true_and, decide_eq_true_iff]
  simp only [PyData.depth]
  omega
theorem gaps_ne {K : PySem.W.Frag} {H : Hp} {a b : Addr} {xs ys : List Str} {g : G} {Q : VK} (ea : H a = some (.lst (xs.map V.str))) (eb : H b = some (.lst (ys.map V.str))) (nx : xs.Nodup) (ny : ys.Nodup) (rx : SetS.Rises xs) (ry : SetS.Rises ys) (mx : ∀ x, x ∈ xs ↔ x ∈ gapsOf g) (my : ∀ x, x ∈ ys ↔ x ∈ gapsOf g) (hf : fine g = true) (q : Q (.bl false) H) : rNeD K (.ref a) (.ref b) H Q := by
  obtain rfl : xs = ys := SetS.rises_one rx ry ((List.perm_ext_iff_of_nodup nx ny).mpr fun x => (mx x).trans (my x).symm)
  have sh := strs_shaped fun x hx => (gaps_fine _ g (Nat.le_refl _) hf x ((mx x).mp hx)).2
  refine ⟨_, _, .lst (SqL.of ea) (dp_strs xs), .lst (SqL.of eb) (dp_strs xs), sh, sh, ?_⟩
  rw [SeqAt.eqv_refl _ (SeqAt.canLay_of_shaped sh)]
  exact q
theorem low_ok {cs : List Nat} (h : cs.all isLow = true) : ∀ c ∈ cs, c < 0x110000 := fun c hc => by
  have := List.all_eq_true.mp h c hc
  unfold isLow at this
  rw [decide_eq_true_iff] at this
  omega
theorem gapB_fine {x : Str} (h : gapB x = true) : x.length ≤ 10 ∧ PyData.strOk x = true := by
  unfold gapB at h
  rw [Bool.and_eq_true_iff, Bool.and_eq_true_iff, decide_eq_true_iff, decide_eq_true_iff] at h
  refine ⟨by omega, ?_⟩
  show x.cps.all (· < 0x110000) = true
  rw [Array.all_eq_true_iff_forall_mem]
  intro c hc
  have hc' : c ∈ x.cps.toList := by simpa using hc
  have hb : ∀ c ∈ bigs.cps.toList, c < 0x110000 := by decide +kernel
  rw [decide_eq_true_iff]
  obtain ⟨h1, h2, h3⟩ := h
  cases e : x.cps.toList with
  | nil =>
    rw [e] at hc'
    cases hc'
  | cons a r =>
    rw [e] at hc' h2 h3
    rcases List.mem_cons.mp hc' with rfl | hc'
    · exact hb _ h2
    · exact low_ok h3 c hc'
theorem stands_fine {L : List Ln} (ok : LOk L) (n : Nat) : ∀ g, dp g ≤ n → stands L g = true → fine g = true := by
  induction n with
  | zero =>
    intro g h
    have := dp_pos g
    omega
  | succ n ih =>
    intro g hd' hg
    rcases shp_cases (stands_shp _ g (Nat.le_refl _) hg).1 with ⟨x, rfl⟩ | ⟨x, ps, rfl, _⟩
    · rw [stands_s] at hg
      rw [fine]
      simp [(gapB_fine hg).1, (gapB_fine hg).2]
    · obtain ⟨y, l, e, hf, hp⟩ := stands_head hg
      cases e
      obtain ⟨m1, m2⟩ := find_mem hf
      have hn := name_fine (ok.nm l m1)
      rw [m2] at hn
      refine fine_mk fun p hpm => ?_
      rcases List.mem_cons.mp hpm with rfl | hpm
      · rw [fine]
        simp [hn.1, hn.2]
      · exact ih p (dp_mem hd' (List.mem_cons_of_mem _ hpm)) (hp p hpm)
theorem Cgs.ren {L : List Ln} {gs : List Str} {r : Str → Str} (c : Cgs L gs r) (S : Sg L) : Sg (L.map fun l => (r l.1, l.2)) ∧ Ren L (L.map fun l => (r l.1, l.2)) gs r := by
  have hn : ((L.map fun l => (r l.1, l.2)).map (·.1)) = (L.map (·.1)).map r := by rw [List.map_map, List.map_map]; rfl
  have hS : Sg (L.map fun l => (r l.1, l.2)) := by
    refine sg_of (fun l hl => ?_) ?_ (fun z => S.ne (List.map_eq_nil_iff.mp z)) (by rw [List.length_map]; exact S.ok.len) fun l hl => ?_
    · obtain ⟨m, hm, rfl⟩ := List.mem_map.mp hl
      exact c.nm _ (List.mem_map.mpr ⟨m, hm, rfl⟩)
    · rw [hn]
      have key : ∀ xs : List Str, xs.Nodup → (∀ x ∈ xs, x ∈ L.map (·.1)) → (xs.map r).Nodup := fun xs => by
        induction xs with
        | nil => exact fun _ _ => List.nodup_nil
        | cons a t ih =>
          intro h1 h2
          rw [List.nodup_cons] at h1
          rw [List.map_cons, List.nodup_cons]
          refine ⟨fun z => ?_, ih h1.2 fun x hx => h2 x (List.mem_cons_of_mem _ hx)⟩
          obtain ⟨b, hb, e⟩ := List.mem_map.mp z
          have := c.inj b (List.mem_append_left _ (h2 b (List.mem_cons_of_mem _ hb))) a (List.mem_append_left _ (h2 a List.mem_cons_self)) e
          exact h1.1 (this ▸ hb)
      exact key _ S.nd fun _ h => h
    · obtain ⟨m, hm, rfl⟩ := List.mem_map.mp hl
      exact S.rw m hm
  exact ⟨hS, ⟨rfl, S.ok, hS.ok, c.inj, c.gp⟩⟩
abbrev sSbn : Stmt := topS 75
abbrev nSbn : List Str := ["_law_state", "_law_stock", "_law_lines", "_law_loose_here", "_law_tree", "_law_callings_here", "_law_mates", "_law_word", "_law_kind", "_law_many", "_law_found", "_law_blank"]
def spSbn (K : PySem.W.Frag) (TT : List (Addr × Str)) (C : Addr) : Sp := fun vs H Q _ => ∃ (d g c p ll : Addr) (t : Nat) (L : List Ln) (xs : List V) (v u : V) (gg : G), vs = [.ref d, .ref p, .ref ll, v, u] ∧ Wd TT d g c t H ∧ SgL K C (hid [d, g] H) p L ∧ hid [d, g] H ll = some (.lst xs) ∧ DpAll K (hid [d, g] H) xs (L.map rowD) ∧ Sg L ∧ In K H v gg ∧ In K H u (laid L gg) ∧ lay0 L gg = true ∧ fine gg = true ∧ GpB gg ∧ sz gg ≤ 2000 ∧ t + 320 < 2 ^ 30 ∧
  ∀ H', Wd TT d g c (t + 320) H' → Kn d g H H' → Q (.bl true) H'
section
variable {P : Program} {w : World} {K : PySem.W.Frag} {mg : Str → Option Value} {base : Heap}
theorem scSbn : FnScope nSbn ["_law_state", "_law_stock", "_law_lines", "_law_loose_here", "_law_tree"] (defScope sSbn) := ⟨rfl, rfl, rfl, by decide +kernel, rfl, by decide +kernel, by decide +kernel⟩
theorem ok_sbn {f C CN CT fI f1 f3 f4 f5 : Addr} {fd fdI fd1 fd3 fd4 fd5 : FuncData} {TT : List (Addr × Str)} {n m mb mc : Nat} (F : Fun K "_law_same_by_names" "_law_same_by_names" sSbn f fd) (T : Ct mg)
    (gC : mg "Signs" = some (.ref C)) (MK : Mk K C fI) (FI : FnOk P w K mg base (L2.CX P w) 5 fI fdI ["self", "rows"] (spInit K C CN)) (bI : Binds K fdI ["self", "rows"] [])
    (DC : Df P w K mg base C8.CX0 "_law_callings" mc ["_law_state", "_law_lines", "_law_loose_here"] (spCgs K TT n)) (DD : Df P w K mg base C8.CX0 "_law_called" mc ["_law_words_here", "_law_loose_here"] (spCld K n))
    (F1 : FnOk P w K mg base (L2.CX P w) mb f1 fd1 ["signs", "draft"] (spAsk K C CT (aLaid K))) (g1 : mg "laid" = some (.ref f1)) (k1 : PySem.W.keepIn K (.ref f1) = true) (b1 : Binds K fd1 ["signs", "draft"] [])
    (F3 : FnOk P w K mg base (L2.CX P w) mb f3 fd3 ["signs", "term"] (spAsk K C CT aPts)) (g3 : mg "points" = some (.ref f3)) (k3 : PySem.W.keepIn K (.ref f3) = true) (b3 : Binds K fd3 ["signs", "term"] [])
    (F4 : FnOk P w K mg base (L2.CX P w) mb f4 fd4 ["signs", "term"] (spAsk K C CT aDeep)) (g4 : mg "deep" = some (.ref f4)) (k4 : PySem.W.keepIn K (.ref f4) = true) (b4 : Binds K fd4 ["signs", "term"] [])
    (F5 : FnOk P w K mg base (L2.CX P w) mb f5 fd5 ["signs", "term"] (spAsk K C CT aGaps)) (g5 : mg "gaps" = some (.ref f5)) (k5 : PySem.W.keepIn K (.ref f5) = true) (b5 : Binds K fd5 ["signs", "term"] [])
    (h5 : 6 ≤ m) (hmb : mb ≤ m) (hmc : mc ≤ m) (hn : 13 ≤ n) :
    FnOk P w K mg base C8.CX0 (m + 1) f fd ["_law_state", "_law_stock", "_law_lines", "_law_loose_here", "_law_tree"] (spSbn K TT C) := by
  refine F.ok scSbn (fun vs H Q E h => ?_) (fun cdv A outer s H vs Q E hr h => ?_)
  · obtain ⟨d, g, c, p, ll, t, L, xs, v, u, gg, rfl, _⟩ := h
    rfl
  · obtain ⟨d, g, c, p, ll, t, L, xs, v, u, gg, rfl, W, Sg0, hx, hdp, S, hin, hinu, hl, hf, hgb, hz, ht, k⟩ := h
    have hrb : Room mb _ := hr.mono hmb
    have hrc : Room mc _ := hr.mono hmc
    have hr5 : Room 6 _ := hr.mono h5
    have hu' := hu_of hr
    refine ⟨_, pss_cons (ps_set (i := 5) scSbn.nd rfl (Or.inr rfl) (pe_df DC hrc pass0 (pa_cons (pv 0) (pa_cons (pv 2) (pa_cons (pv 3) pa_nil))) (Nat.le_refl _)))
      (pss_cons (ps_set (i := 6) scSbn.nd rfl (Or.inl rfl) (pe_make MK FI hr5 (by rfl) gC bI .nil passX (pa_cons (pe_lc (own := [("_law_word", 7), ("_law_kind", 8), ("_law_many", 9)]) (g := gTup K 3 (gCons (gName 7) (gCons (gName 8) (gCons (gName 9) gNil)))) (tt := tYes) rfl scSbn.nd (pi_list (pv 2)) (blkOk_by (N := nSbn) (sc := defScope sSbn) (by decide +kernel))
        (fun _ _ _ _ _ => pg_tup rfl (pgs_cons (pg_name (i := 7) scSbn.nd rfl (Or.inl rfl)) (pgs_cons (pg_name (i := 8) scSbn.nd rfl (Or.inl rfl)) (pgs_cons (pg_name (i := 9) scSbn.nd rfl (Or.inl rfl)) pgs_nil)))) (fun _ _ _ _ _ => pts_nil) (fun _ _ _ _ _ => pe_tup (pa_cons (pe_dget hu' (pv 5) (pv 7) (fun _ _ => rfl)) (pa_cons (pv 8) (pa_cons (pv 9) pa_nil))))) pa_nil)))
      (pss_cons (ps_set (i := 10) scSbn.nd rfl (Or.inl rfl) (pe_call F1 hrb (by rfl) g1 k1 b1 .nil passX (pa_cons (pv 6) (pa_cons (pe_df DD hrc pass0 (pa_cons (pv 5) (pa_cons (pv 3) pa_nil)) (Nat.le_refl _)) pa_nil))))
      (pss_cons (ps_if (pt_cmpR (op_neD hr.units) (pv 10) (pe_call F1 hrb (by rfl) g1 k1 b1 .nil passX (pa_cons (pv 6) (pa_cons (pe_df DD hrc pass0 (pa_cons (pv 5) (pa_cons (pv 4) pa_nil)) (Nat.le_refl _)) pa_nil))) (nomark _)) (pss_one (ps_ret pe_bl)) pss_nil)
      (pss_cons (ps_if (pt_cmpR (op_neD hr.units) (pe_lst (pa_cons (pe_call F3 hrb (by rfl) g3 k3 b3 .nil passX (pa_cons (pv 6) (pa_cons (pv 10) pa_nil))) (pa_cons (pe_call F4 hrb (by rfl) g4 k4 b4 .nil passX (pa_cons (pv 6) (pa_cons (pv 10) pa_nil))) pa_nil))) (pe_lst (pa_cons (pe_call F3 hrb (by rfl) g3 k3 b3 .nil passX (pa_cons (pv 1) (pa_cons (pv 4) pa_nil))) (pa_cons (pe_call F4 hrb (by rfl) g4 k4 b4 .nil passX (pa_cons (pv 1) (pa_cons (pv 4) pa_nil))) pa_nil))) (nomark _)) (pss_one (ps_ret pe_bl)) pss_nil)
      (pss_one (ps_ret (pe_cmpR (op_eqD hr.units) (pe_call F5 hrb (by rfl) g5 k5 b5 .nil passX (pa_cons (pv 6) (pa_cons (pv 10) pa_nil))) (pe_callB cr_sortSL (by rfl) T.sorted (by decide +kernel) (pa_cons (pe_lc (own := [("_law_blank", 11)]) (g := gName 11) (tt := tYes) (te := tDGet (tVar 5) (tVar 11)) rfl scSbn.nd (pi_list (pe_call F5 hrb (by rfl) g5 k5 b5 .nil passX (pa_cons (pv 1) (pa_cons (pv 4) pa_nil)))) (blkOk_by (N := nSbn) (sc := defScope sSbn) (by decide +kernel)) (fun _ _ _ _ _ => pg_name (i := 11) scSbn.nd rfl (Or.inl rfl)) (fun _ _ _ _ _ => pts_nil)
        (fun _ _ _ _ _ => pe_dget hu' (pv 5) (pv 11) (fun _ _ => rfl))) pa_nil)) (nomark _)))))))), ?_⟩
    obtain ⟨h1, h2, h3, h4, h5', h6⟩ := lay0_st hl
    have hsh := (stands_shp _ gg (Nat.le_refl _) h1)
    refine ⟨_, rfl, _, rfl, _, rfl, d, g, c, ll, t, L, xs, v, gg, rfl, W, hx, hdp, S, hin, hsh.1, hgb, by omega, hz, ht, fun po gs r H1 tel cg mem W1 n1 => ?_⟩
    obtain ⟨S', R⟩ := cg.ren S
    have hgin : Gin gs gg := fun x hx => (mem x).mpr hx
    have tk1 := W.G.tk n1
    have hin1 := in_tk tk1 _ _ hsh.1 hin
    have hLs := laid_less (L := L) _ gg (Nat.le_refl _) hsh.1 hf
    have hinu1 := in_tk tk1 _ _ hLs.shp hinu
    have hx1 := n1.hid _ _ hx (by intro _ z; cases z)
    have hdp1 := dpr_ext n1.hid _ hdp
    have Sg1 : SgL K C H1 p L := (Sg0.ext n1.hid).same hid_le
    have tel1 : Tel H1 po (L.map (·.1) ++ gs) r := tel.same hid_le
    obtain ⟨lld, llg, hx10⟩ := hid_got hx1
    have hxl : xs.length = L.length := by
      have := dpAll_len hdp
      rw [List.length_map] at this
      exact this
    have hL := S.ok.len
    refine ⟨_, rfl, ll, rfl, ⟨_, SqL.of hx10⟩, fun D hD => lc_list (K := K) (a := ll) (xs := xs) (fun i H' => Same H1 H' ∧ ∃ ys : List V, H' D = some (.lst ys) ∧ ys.length = i ∧ DpAll K H' ys (((L.take i).map fun l => (r l.1, l.2)).map rowD))
      ⟨Same.new (Same.refl H1) hD, [], upd_same, rfl, .nil⟩ (fun i H' _ ⟨s1, _⟩ => SqL.of (s1 _ _ hx10)) ?_ ?_⟩
    · rintro i x H' hi ⟨s1, ys, eD, hyl, hys⟩
      obtain ⟨l, hli, hld⟩ := dpr_at hdp1 hi
      obtain ⟨b, rfl, hb⟩ := row_at (dp_same hid_le _ _ hld)
      have hil := (List.getElem?_eq_some_iff.mp hli).1
      have hlm : l.1 ∈ L.map (·.1) := List.mem_map.mpr ⟨l, List.mem_of_getElem? hli, rfl⟩
      refine ⟨b, _, rfl, sqt_same s1 hb, rfl, _, _, rfl, _, _, rfl, _, _, rfl, rfl, rfl, _, rfl, _, rfl, po, _, rfl, (tel1.same s1).get (List.mem_append_left _ hlm), _, rfl, _, rfl, (by show 3 ≤ sizeLine; decide), fun q hq => ?_⟩
      have sq := Same.new (o := .tup [.str (r l.1), .str l.2.1, .int l.2.2]) (Same.refl H') hq
      have nD : D ≠ q := ne_of_none eD hq
      refine ⟨ys, sq _ _ eD, by rw [sizeLine_eq]; omega, ?_, ys ++ [.ref q], upd_same, by rw [List.length_append, hyl]; rfl, ?_⟩
      · exact fun c' o e => by
          rw [upd_ne (ne_of_none e hD)]
          exact sq _ _ (s1 _ _ e)
      · have off : TupK H' (upd (upd H' q (.tup [.str (r l.1), .str l.2.1, .int l.2.2])) D (.lst (ys ++ [.ref q]))) := (TupK.of (Ext.of sq)).off (sq _ _ eD)
        rw [take_snoc hli, List.map_append]
        exact dpr_snoc (l := (r l.1, l.2)) (dpr_tk off _ hys) (.tup (SqT.of (by rw [upd_ne nD.symm, upd_same])) (.cons (.str _) (.cons (.str _) (.cons (.int _) .nil))))
    rintro H2 ⟨s2, ys, eD, hyl, hys⟩
    rw [hxl, List.take_length] at hys
    generalize hL' : (L.map fun l => (r l.1, l.2)) = L' at *
    refine fun x dx hx' hdx hxd => ?_
    have m0 := same_made0 (C := C) hx' hdx
    have dm2 : Dm K H2 (.ref D) (.list (L'.map rowD)) := .dat (.lst (SqL.of eD) hys)
    refine ⟨x, dx, .ref D, .list (L'.map rowD), rfl, upd_same, dm2.same m0, S'.data, fun _ rt td zs H3 A3 D3 td0 keep => ⟨rfl, ?_⟩, fun z => absurd z (by rw [S'.signs]; decide)⟩
    have s23 := same_made hx' hdx keep
    have ens : (itemsD (.list (L'.map rowD))).map nameOf = L'.map (·.1) := by
      show (L'.map rowD).map nameOf = _
      rw [List.map_map]
      rfl
    rw [ens] at A3
    have SgM : SgL K C H3 x L' := ⟨rt, td, zs, A3, D3⟩
    have s13 := s2.trans s23
    obtain ⟨l1, l2, rm⟩ := R.lay hl hgin
    have hgin2 : Gin gs (laid L gg) := fun y hy => hgin y ((gaps_laid _ gg (Nat.le_refl _) hsh.1).mp hy)
    have hst2 := stands_laid _ gg (Nat.le_refl _) h1 h6
    have a1 := R.all _ gg (Nat.le_refl _) h1 hgin
    have a2 := R.all _ (laid L gg) (Nat.le_refl _) hst2 hgin2
    have eM := R.laid hl hgin
    have z2 := hLs.sz
    have d2 := hLs.dp
    have hd1 := hsh.2
    -- the draft called otherwise, laid
    refine ⟨_, rfl, _, rfl, _, rfl, po, L, gs, r, v, gg, rfl, tel1.same s13, hin1.same s13, h1, hgin, by omega, hz, fun v1 H4 s4 i1 => ?_⟩
    have s14 := s13.trans s4
    refine askT (SgM.same s4) S'.ok i1 (stands_fine S'.ok _ _ (Nat.le_refl _) a1.st) (by rw [a1.sz]; exact hz) l1 fun H5 vf s5 hvf => ?_
    have s15 := s14.trans s5
    refine ⟨_, rfl, _, rfl, _, rfl, _, rfl, po, L, gs, r, u, laid L gg, rfl, tel1.same s15, hinu1.same s15, hst2, hgin2, by omega, by omega, fun v2 H6 s6 i2 => ?_⟩
    have s16 := s15.trans s6
    refine askT (SgM.same ((s4.trans s5).trans s6)) S'.ok i2 (stands_fine S'.ok _ _ (Nat.le_refl _) a2.st) (by rw [a2.sz]; omega) l2 fun H7 v3 s7 h7 => ?_
    have s17 := s16.trans s7
    obtain ⟨hLm, hsm, hdm⟩ := lay0_less l1 (stands_fine S'.ok _ _ (Nat.le_refl _) a1.st)
    have hdM := hLm.dp
    have hzM := hLm.sz
    rw [a1.sz] at hzM
    have hvf7 := hvf.same (s6.trans s7)
    have hlM : lay0 L' (laid L' (ren r gg)) = true := lay0_laid l1
    refine ne_go hvf7 (by rw [← eM] at h7; exact h7) hLm.shp hLm.shp hLm.fine hLm.fine (by omega) (by omega) ?_
    refine ⟨_, rfl, iteF_ (by simp) ?_⟩
    -- points and depth
    refine ⟨_, rfl, _, rfl, askT (SgM.same (((s4.trans s5).trans s6).trans s7)) S'.ok hvf7 hLm.fine (by omega) hlM fun H8 v8 s8 h8 => ?_⟩
    rw [laid_laid] at h8
    obtain rfl : v8 = .int (points (laid L' (ren r gg))) := h8
    have s18 := s17.trans s8
    refine ⟨_, rfl, _, rfl, askT (SgM.same ((((s4.trans s5).trans s6).trans s7).trans s8)) S'.ok (hvf7.same s8) hLm.fine (by omega) hlM fun H9 v9 s9 h9 => ?_⟩
    rw [laid_laid] at h9
    obtain rfl : v9 = .int (deep (laid L' (ren r gg))) := h9
    have s19 := s18.trans s9
    refine ⟨(by show 2 ≤ sizeLine; decide), fun q1 hq1 => ?_⟩
    have s10 := Same.new (o := .lst [.int (points (laid L' (ren r gg))), .int (deep (laid L' (ren r gg)))]) (Same.refl H9) hq1
    have sA := s19.trans s10
    have hlT : lay0 L (laid L gg) = true := lay0_laid hl
    refine ⟨_, rfl, _, rfl, askT (Sg1.same sA) S.ok (hinu1.same sA) hLs.fine (by omega) hlT fun H11 v11 s11 h11 => ?_⟩
    rw [laid_laid] at h11
    obtain rfl : v11 = .int (points (laid L gg)) := h11
    have sB := sA.trans s11
    refine ⟨_, rfl, _, rfl, askT (Sg1.same sB) S.ok (hinu1.same sB) hLs.fine (by omega) hlT fun H12 v12 s12 h12 => ?_⟩
    rw [laid_laid] at h12
    obtain rfl : v12 = .int (deep (laid L gg)) := h12
    have sC := sB.trans s12
    refine ⟨(by show 2 ≤ sizeLine; decide), fun q2 hq2 => ?_⟩
    have s13' := Same.new (o := .lst [.int (points (laid L gg)), .int (deep (laid L gg))]) (Same.refl H12) hq2
    have sD := sC.trans s13'
    have eqm : ∀ a b : Int, SeqAt.shaped (.list [.int a, .int b]) = true ∧ PyData.eqv (.list [.int a, .int b]) (.list [.int a, .int b]) = true := fun a b => by
      refine ⟨?_, ?_⟩
      · unfold SeqAt.shaped
        simp [PyData.canLay0, PyData.canLayAll0, PyData.depth, PyData.depthAll]
      · simp [PyData.eqv, PyData.eqvAll]
    refine ⟨.list [.int (points (laid L' (ren r gg))), .int (deep (laid L' (ren r gg)))], .list [.int (points (laid L gg)), .int (deep (laid L gg))], .lst (SqL.of (((s11.trans s12).trans s13') _ _ upd_same)) (.cons (.int _) (.cons (.int _) .nil)), .lst (SqL.of upd_same) (.cons (.int _) (.cons (.int _) .nil)), (eqm _ _).1, (eqm _ _).1, ?_⟩
    rw [show points (laid L' (ren r gg)) = points (laid L gg) by rw [eM]; exact rm.pt, show deep (laid L' (ren r gg)) = deep (laid L gg) by rw [eM]; exact rm.dpp, (eqm _ _).2]
    refine ⟨_, rfl, iteF_ (by simp) ?_⟩
    -- gaps
    have sM : Same H3 _ := ((((((s4.trans s5).trans s6).trans s7).trans s8).trans s9).trans s10).trans ((s11.trans s12).trans s13')
    refine ⟨_, rfl, _, rfl, askT (SgM.same sM) S'.ok (hvf.same (((((s6.trans s7).trans s8).trans s9).trans s10).trans ((s11.trans s12).trans s13'))) hLm.fine (by omega) hlM fun H14 v14 s14' h14 => ?_⟩
    rw [laid_laid] at h14
    obtain ⟨ga, xg, rfl, _, ega, ndg, rig, meg⟩ := h14
    have sE := sD.trans s14'
    refine ⟨_, rfl, _, rfl, askT (Sg1.same sE) S.ok (hinu1.same sE) hLs.fine (by omega) hlT fun H15 v15 s15' h15 => ?_⟩
    rw [laid_laid] at h15
    obtain ⟨gb, xb, rfl, _, egb, ndb, rib, meb⟩ := h15
    have sF := sE.trans s15'
    refine ⟨gb, rfl, ⟨_, SqL.of egb⟩, fun D2 hD2 => lc_list (K := K) (a := gb) (xs := xb.map V.str) (fun i H' => Same H15 H' ∧ H' D2 = some (.lst (((xb.take i).map r).map V.str)))
      ⟨Same.new (Same.refl _) hD2, by rw [upd_same]; rfl⟩ (fun i H' _ ⟨s1, _⟩ => SqL.of (s1 _ _ egb)) ?_ ?_⟩
    · rintro i x' H' hi ⟨s1, eD2⟩
      rw [List.getElem?_map, Option.map_eq_some_iff] at hi
      obtain ⟨b, hb, rfl⟩ := hi
      have hbg : b ∈ gs := hgin2 b ((meb b).mp (List.mem_of_getElem? hb))
      have hbl := (List.getElem?_eq_some_iff.mp hb).1
      have hnl := nodup_len ndb fun y hy => (meb y).mp hy
      have hgl2 := gaps_len _ (laid L gg) (Nat.le_refl _)
      refine ⟨rfl, _, rfl, _, rfl, po, _, rfl, ((tel1.same sF).same s1).get (List.mem_append_right _ hbg), _, eD2, by rw [List.length_map, List.length_map, List.length_take, sizeLine_eq]; omega, ?_, ?_⟩
      · exact fun c' o e => by
          rw [upd_ne (ne_of_none e hD2)]
          exact s1 _ _ e
      · rw [upd_same, take_snoc hb, List.map_append, List.map_append]
        rfl
    · rintro H16 ⟨s16', eD2⟩
      rw [List.length_map, List.take_length] at eD2
      refine ⟨D2, xb.map r, rfl, SqL.of eD2, fun zs q hpz hrz hq => ?_⟩
      have s17' := Same.new (o := .lst (zs.map V.str)) (Same.refl H16) hq
      have ndr : (xb.map r).Nodup := by
        have key : ∀ xs : List Str, xs.Nodup → (∀ x ∈ xs, x ∈ gs) → (xs.map r).Nodup := fun xs => by
          induction xs with
          | nil => exact fun _ _ => List.nodup_nil
          | cons a t ih =>
            intro h1 h2
            rw [List.nodup_cons] at h1
            rw [List.map_cons, List.nodup_cons]
            refine ⟨fun z => ?_, ih h1.2 fun x hx => h2 x (List.mem_cons_of_mem _ hx)⟩
            obtain ⟨b, hb, e⟩ := List.mem_map.mp z
            have := cg.inj b (List.mem_append_right _ (h2 b (List.mem_cons_of_mem _ hb))) a (List.mem_append_right _ (h2 a List.mem_cons_self)) e
            exact h1.1 (this ▸ hb)
        exact key xb ndb fun y hy => hgin2 y ((meb y).mp hy)
      obtain rfl : xg = zs := SetS.rises_one rig hrz ((List.perm_ext_iff_of_nodup ndg (hpz.nodup_iff.mpr ndr)).mpr fun y => by
        rw [hpz.mem_iff, meg y, eM, rm.gp y, List.mem_map, List.mem_map]
        exact ⟨fun ⟨w, h1, h2⟩ => ⟨w, (meb w).mpr h1, h2⟩, fun ⟨w, h1, h2⟩ => ⟨w, (meb w).mp h1, h2⟩⟩)
      have sh := strs_shaped fun y hy => (gaps_fine _ (laid L' (ren r gg)) (Nat.le_refl _) hLm.fine y ((meg y).mp hy)).2
      refine ⟨_, _, .lst (SqL.of ((s15'.trans (s16'.trans s17')) _ _ ega)) (dp_strs xg), .lst (SqL.of upd_same) (dp_strs xg), sh, sh, ?_⟩
      rw [SeqAt.eqv_refl _ (SeqAt.canLay_of_shaped sh)]
      have sZ := (sF.trans s16').trans s17'
      exact k _ (W1.same sZ) (n1.trans (.same sZ))
end
end K1
set_option Elab.async false
set_option linter.all false
set_option maxRecDepth 100000
set_option maxHeartbeats 4000000
namespace K1
open PySem PySem.Spec PyProof.Rows L2
open PySem.W (EachIs)
/-! ### within each other sign -/
theorem inL_dpS {K : PySem.W.Frag} {H : Hp} : ∀ {xs : List V} {gs : List G}, (∀ g ∈ gs, shp g = true) → InL K H xs gs → DpAll K H xs (gs.map toD)
  | _, _, _, .nil => .nil
  | _, _, hs, .cons h t => .cons (in_dp _ _ (hs _ List.mem_cons_self) h) (inL_dpS (fun g hg => hs g (List.mem_cons_of_mem _ hg)) t)
theorem list_shaped {gs : List G} (h : ∀ g ∈ gs, shp g = true ∧ fine g = true ∧ dp g ≤ 50) : SeqAt.shaped (.list (gs.map toD)) = true := by
  have h1 : PyData.canLay0 (.list (gs.map toD)) = true := by
    simp only [PyData.canLay0]
    refine layAll_of fun e he => ?_
    obtain ⟨g, hg, rfl⟩ := List.mem_map.mp he
    exact (toD_ok 50 g (h g hg).2.2 (h g hg).1 (h g hg).2.1).1
  have h2 := depAll_of (n := 50) (ds := gs.map toD) fun e he => by
    obtain ⟨g, hg, rfl⟩ := List.mem_map.mp he
    exact (toD_ok 50 g (h g hg).2.2 (h g hg).1 (h g hg).2.1).2
  unfold SeqAt.shaped
  rw [h1, Bool.true_and, decide_eq_true_iff]
  simp only [PyData.depth]
  omega
theorem gl_ne {K : PySem.W.Frag} {H : Hp} {a b : Addr} {xs ys : List V} {gs : List G} {Q : VK} (ha : SqL K H a xs) (hb : SqL K H b ys) (ia : InL K H xs gs) (ib : InL K H ys gs) (h : ∀ g ∈ gs, shp g = true ∧ fine g = true ∧ dp g ≤ 50) (q : Q (.bl false) H) : rNeD K (.ref a) (.ref b) H Q := by
  have sh := list_shaped h
  refine ⟨_, _, .lst ha (inL_dpS (fun g hg => (h g hg).1) ia), .lst hb (inL_dpS (fun g hg => (h g hg).1) ib), sh, sh, ?_⟩
  rw [SeqAt.eqv_refl _ (SeqAt.canLay_of_shaped sh)]
  exact q
theorem len_sz : ∀ gs : List G, gs.length ≤ (gs.map sz).sum
  | [] => Nat.le_refl _
  | g :: gs => by
    have h1 := len_sz gs
    have h2 := sz_pos g
    rw [List.map_cons, List.sum_cons, List.length_cons]
    omega
theorem rep_flat (v : V) : ∀ n : Nat, (List.replicate n [v]).flatten = List.replicate n v
  | 0 => rfl
  | n + 1 => by rw [List.replicate_succ, List.flatten_cons, rep_flat v n, List.replicate_succ]; rfl
theorem inL_rep {K : PySem.W.Frag} {H : Hp} {v : V} {g : G} (h : In K H v g) : ∀ n : Nat, InL K H (List.replicate n v) (List.replicate n g)
  | 0 => .nil
  | n + 1 => .cons h (inL_rep h n)
theorem flat_rep {w : Str} {gl : G} (h : noHd w gl) (n : Nat) : flat w (List.replicate n gl) = List.replicate n gl := flat_no fun r hr => by rw [List.eq_of_mem_replicate hr]; exact h
theorem leaf_noHd {L : List Ln} {w : Str} {gl : G} (hs : stands L gl = true) (hp : points gl = 1) (er : rowish (kindOf L w) = true) : noHd w gl := fun rs e => by
  subst e
  rw [points_t] at hp
  have h0 : (rs.map points).sum = 0 := by omega
  have : rs = [] := by
    cases rs with
    | nil => rfl
    | cons r rs =>
      rw [List.map_cons, List.sum_cons] at h0
      have := points_pos r
      omega
  subst this
  rw [stands_t, Bool.and_eq_true_iff] at hs
  have h1 := hs.1
  cases hf : find L w with
  | none => simp [hasParts, hf] at h1
  | some l =>
    rw [kindOf_of hf] at er
    simp only [hasParts, hf, if_pos er] at h1
    have := of_decide_eq_true h1
    simp at this
def qWr : Str := Str.ofString "_law_within_right.<locals>.<lambda>"
abbrev sWr : Stmt := topS 74
abbrev nWr : List Str := ["_law_state", "_law_stock", "_law_lines", "_law_tree", "_law_leaf_here", "_law_word", "_law_kind", "_law_many", "_law_size", "_law_wide", "_law_inner", "_law_due"]
theorem bl1 : Blk ["A"] := ⟨by decide, by decide, by decide +kernel, by decide +kernel, by decide +kernel⟩
def spWr (K : PySem.W.Frag) (TT : List (Addr × Str)) (C : Addr) : Sp := fun vs H Q _ => ∃ (d g c p ll : Addr) (t : Nat) (L : List Ln) (xs : List V) (u : V) (gt : G), vs = [.ref d, .ref p, .ref ll, u] ∧ Wd TT d g c t H ∧ SgL K C (hid [d, g] H) p L ∧ hid [d, g] H ll = some (.lst xs) ∧ DpAll K (hid [d, g] H) xs (L.map rowD) ∧ Sg L ∧ In K H u gt ∧ stands L gt = true ∧ laid L gt = gt ∧ fine gt = true ∧ sz gt ≤ 1000 ∧ dp gt ≤ 14 ∧ t + 1 < 2 ^ 30 ∧
  ∀ H', Wd TT d g c (t + 1) H' → Kn d g H H' → Q (.bl true) H'
section
variable {P : Program} {w : World} {K : PySem.W.Frag} {mg : Str → Option Value} {base : Heap}
theorem scWr : FnScope nWr ["_law_state", "_law_stock", "_law_lines", "_law_tree"] (defScope sWr) := ⟨rfl, rfl, rfl, by decide +kernel, rfl, by decide +kernel, by decide +kernel⟩
theorem ok_wr {f cc PR C CT f6 : Addr} {fd fd6 : FuncData} {TT : List (Addr × Str)} {m mb mi q N : Nat} (F : FunC K "_law_within_right" sWr f fd cc) (T : Ct mg)
    (DL : Df P w K mg base C8.CX0 "_law_leaf" 4 ["_law_state", "_law_lines", "_law_blanks"] (spLeaf K TT)) (DI : Df P w K mg base C8.CX0 "is_draft" mi ["signs", "thing"] (spIs K C lay0)) (DT : Df P w K mg base C8.CX0 "_law_text" q ["_law_tree"] (sp1 K N fun g => .str (text g)))
    (F6 : FnOk P w K mg base (L2.CX P w) mb f6 fd6 ["signs", "term"] (spAsk K C CT (aParts K))) (g6 : mg "part_rows" = some (.ref f6)) (k6 : PySem.W.keepIn K (.ref f6) = true) (b6 : Binds K fd6 ["signs", "term"] [])
    (TB : LamX.TabB base mg cc PR) (hT : (PR, qWr) ∈ TT) (hTu : ∀ p ∈ TT, p.1 = PR → p.2 = qWr) (h4 : 4 ≤ m) (hmi : mi ≤ m) (hmb : mb ≤ m) (hq : q + 3 ≤ m) (hN : 16 ≤ N) :
    FnOk P w K mg base C8.CX0 (m + 1) f fd ["_law_state", "_law_stock", "_law_lines", "_law_tree"] (spWr K TT C) := by
  refine F.okC scWr (fun vs H Q E h => ?_) (fun A outer s H vs Q E hr h => ?_)
  · obtain ⟨d, g, c, p, ll, t, L, xs, u, gt, rfl, _⟩ := h
    rfl
  · obtain ⟨d, g, c, p, ll, t, L, xs, u, gt, rfl, W, Sg0, hx, hdp, S, hin, hst, hld, hf, hz, hd, ht, k⟩ := h
    have hr4 : Room 4 _ := hr.mono h4
    have hrb : Room mb _ := hr.mono hmb
    have hri : Room mi _ := hr.mono hmi
    refine ⟨_, pss_cons (ps_set (i := 4) scWr.nd rfl (Or.inl rfl) (pe_df DL hr4 pass0 (pa_cons (pv 0) (pa_cons (pv 2) (pa_cons (pe_lst (pa_cons pe_str pa_nil)) pa_nil)))))
      (pss_cons (ps_for PassesOwn.never rfl (pi_list (pv 2)) (pg_tup rfl (pgs_cons (pg_name (i := 5) scWr.nd rfl (Or.inl rfl)) (pgs_cons (pg_name (i := 6) scWr.nd rfl (Or.inl rfl)) (pgs_cons (pg_name (i := 7) scWr.nd rfl (Or.inl rfl)) pgs_nil))))
        (C8.pss_cut (ps_set (i := 8) scWr.nd rfl (Or.inl rfl) (pe_ifExp (pt_cmpR op_eq (pv 6) pe_str (nomark _)) (pv 7) pe_int))
        (pss_cons (ps_set (i := 9) scWr.nd rfl (Or.inl rfl) (pe_op op_catT (pe_tup (pa_cons (pv 5) pa_nil)) (pe_callTy call_tuple_of (by rfl) T.tuple boot_tuple (pa_cons (pe_op op_cat (pe_lst (pa_cons (pv 3) pa_nil)) (pe_op op_rep (pe_lst (pa_cons (pv 4) pa_nil)) (pe_op op_sub (pv 8) pe_int))) pa_nil))))
        (pss_one (ps_if (PW.pt (pw_and (pt_cmpR op_gt (pv 8) pe_int (nomark _)) (pw_and1 (pt_val (pe_df DI hri pass0 (pa_cons (pv 1) (pa_cons (pv 9) pa_nil)) (Nat.le_refl _))))))
          (pss_cons (ps_set (i := 10) scWr.nd rfl (Or.inl rfl) (pe_lst (pa_cons (pv 3) pa_nil)))
          (C8.pss_cut (ps_if (PW.pt (pw_and (pt_cmpR (op_inT (units65 hr)) (pv 6) (pe_tup (pa_cons pe_str (pa_cons pe_str pa_nil))) (by rfl)) (pw_and (pt_not (pt_val (pe_callB call_isi (by rfl) T.isi boot_isinstance (pa_cons (pv 3) (pa_cons (pe_bltn (v := .ty "str") (by rfl) T.str boot_str rfl) pa_nil))))) (pw_and1 (pt_cmpR op_eq (pe_ix ix_tup (pv 3) pe_int (fun _ _ => rfl)) (pv 5) (nomark _))))))
            (pss_one (ps_set (i := 10) scWr.nd rfl (Or.inl rfl) (pe_callTy call_list_of (by rfl) T.list boot_list (pa_cons (pe_slice sl_tup (pv 3) (po_some pe_int) po_none) pa_nil)))) pss_nil)
          (pss_cons (ps_set (i := 11) scWr.nd rfl (Or.inl rfl) (pe_op op_cat (pv 10) (pe_op op_rep (pe_lst (pa_cons (pv 4) pa_nil)) (pe_op op_sub (pv 8) pe_int))))
          (C8.pss_cut (ps_if (pt_cmpR (op_inT (units65 hr)) (pv 6) (pe_tup (pa_cons pe_str (pa_cons pe_str pa_nil))) (by rfl))
            (pss_one (ps_set (i := 11) scWr.nd rfl (Or.inl rfl) (SrtF.pe_sortL (T := G) (a := "_law_part") (k := q) (tb := tCall (sp1 K N fun g => .str (text g)) [] C8.E0 (tCons (tVar 0) tNil)) (by rfl) T.sorted (pa_cons (pv 11) pa_nil) TB rfl hT hTu (hr.mono hq) rfl
              ⟨by rfl, by rfl, by rfl, by decide +kernel, by rfl, by decide +kernel, by decide +kernel⟩ rfl rfl (fun _ _ _ _ _ _ => by rfl)
              (fun A' outer' s' H' f' c' hr' => pe_df DT hr' pass0 (pa_cons (pe_var (i := 0) rfl (.inl rfl)) pa_nil) (Nat.le_refl _))))) pss_nil)
          (pss_one (ps_if (pt_cmpR (op_neD hr.units) (pe_call F6 hrb (by rfl) g6 k6 b6 .nil passX (pa_cons (pv 1) (pa_cons (pv 9) pa_nil))) (pv 11) (nomark _)) (pss_one (ps_ret pe_bl)) pss_nil)))))) pss_nil)))))
      (pss_one (ps_ret pe_bl))), ?_⟩
    obtain ⟨lld, llg, hx0⟩ := hid_got hx
    have hsh := (stands_shp _ gt (Nat.le_refl _) hst).1
    refine ⟨_, rfl, _, rfl, (by show 1 ≤ sizeLine; decide), fun bo hbo => ?_⟩
    have s1 := Same.new (o := .lst [.str "A"]) (Same.refl H) hbo
    obtain ⟨bd, bg⟩ := W.G.nd hbo
    have W1 := W.same s1
    have n01 : Kn d g H _ := .same s1
    refine ⟨d, g, c, ll, bo, t, L, ["A"], rfl, W1, by omega, ⟨xs, SqL.of (n01.hid _ _ hx (by intro _ z; cases z)), dpr_ext n01.hid _ hdp⟩, S.ok, S.nd, SqL.of (hid_get bd bg upd_same), bl1, fun lv H2 hlv W2 n12 => ?_⟩
    obtain ⟨gl, i1, i2, i3, i4, i5⟩ := hlv
    have n02 := n01.trans n12
    have tk2 := W.G.tk n02
    have hin2 := in_tk tk2 _ _ hsh hin
    have hx2 := n02.hid _ _ hx (by intro _ z; cases z)
    have hdp2 := dpr_ext n02.hid _ hdp
    have Sg2 : SgL K C H2 p L := (Sg0.ext n02.hid).same hid_le
    have hx20 := (hid_got hx2).2.2
    have zl := i2.sz
    have dl := i2.dp
    refine ⟨_, rfl, ll, rfl, ⟨_, SqL.of hx20⟩, for_list (K := K) (a := ll) (xs := xs) (fun i σ H' => ∃ v5 v6 v7 v8 v9 v10 v11 : Option V, σ = [some (.ref d), some (.ref p), some (.ref ll), some u, some lv, v5, v6, v7, v8, v9, v10, v11] ∧ Ext H2 H' ∧ LamX.Tabs TT H')
      ⟨none, none, none, none, none, none, none, rfl, Ext.refl _, W2.T⟩ (fun i σ H' _ ⟨_, _, _, _, _, _, _, _, e, _⟩ => SqL.of (e _ _ hx20 (by intro _ z; cases z))) ?_ ?_⟩
    rotate_left
    · rintro σ H' ⟨v5, v6, v7, v8, v9, v10, v11, rfl, e, T'⟩
      exact k H' (W2.ext e T') (n02.trans (.ext e))
    rintro i x σ H3 hi ⟨v5, v6, v7, v8, v9, v10, v11, rfl, e3, T3⟩
    obtain ⟨l, hli, hld'⟩ := dpr_at hdp2 hi
    obtain ⟨b, rfl, hb⟩ := row_at (dp_same hid_le _ _ hld')
    have hlm := List.mem_of_getElem? hli
    have hfl := find_nd S.nd hlm
    have ekd := kindOf_of hfl
    obtain ⟨sk, _, _, _⟩ := kinds_ok _ (S.ok.kd l hlm)
    have hsm := S.ok.sm l hlm
    have hnf := name_fine (S.ok.nm l hlm)
    refine ⟨b, _, rfl, e3.sqt hb, rfl, _, _, rfl, _, _, rfl, _, _, rfl, rfl, ?_⟩
    refine ⟨fun σ' H' => ∃ z : Nat, z ≤ 4 ∧ σ' = [some (.ref d), some (.ref p), some (.ref ll), some u, some lv, some (.str l.1), some (.str l.2.1), some (.int l.2.2), some (.int (z : Int)), v9, v10, v11] ∧ H' = H3, ?_, ?_⟩
    · refine ⟨_, rfl, rfl, _, rfl, ?_⟩
      exact ite2 (fun _ => ⟨_, rfl, l.2.2, hsm, rfl, rfl⟩) (fun _ => ⟨2, by decide, rfl, rfl⟩)
    rintro σ' H' ⟨z, hz4, rfl, rfl⟩
    refine ⟨_, rfl, (by show 1 ≤ sizeLine; decide), fun q1 hq1 => ⟨_, rfl, (by show 1 ≤ sizeLine; decide), fun l1 hl1 => ⟨_, rfl, (by show 1 ≤ sizeLine; decide), fun l2 hl2 => ?_⟩⟩⟩
    have r1 := Same.new (o := .tup [.str l.1]) (Same.refl H') hq1
    have r2 := Same.new (o := .lst [u]) r1 hl1
    have r3 := Same.new (o := .lst [lv]) r2 hl2
    have eq1 : (upd (upd (upd H' q1 (.tup [.str l.1])) l1 (.lst [u])) l2 (.lst [lv])) q1 = some (.tup [.str l.1]) := Same.new (o := .lst [lv]) (Same.new (o := .lst [u]) (Same.refl _) hl1) hl2 _ _ upd_same
    have el1 : (upd (upd (upd H' q1 (.tup [.str l.1])) l1 (.lst [u])) l2 (.lst [lv])) l1 = some (.lst [u]) := Same.new (o := .lst [lv]) (Same.refl _) hl2 _ _ upd_same
    have el2 : (upd (upd (upd H' q1 (.tup [.str l.1])) l1 (.lst [u])) l2 (.lst [lv])) l2 = some (.lst [lv]) := upd_same
    generalize (upd (upd (upd H' q1 (.tup [.str l.1])) l1 (.lst [u])) l2 (.lst [lv])) = Ha at *
    have hn4 : ((z : Int) - 1).toNat ≤ 4 := by omega
    refine ⟨_, rfl, _, _, rfl, rfl, l2, _, [lv], rfl, rfl, el2, by omega, by omega, (by simp only [List.length_cons, List.length_nil]; rw [sizeLine_eq]; omega), fun l3 hl3 => ?_⟩
    rw [rep_flat]
    generalize hN0 : ((z : Int) - 1).toNat = n at *
    have r4 := Same.new (o := .lst (List.replicate n lv)) (Same.refl Ha) hl3
    refine ⟨l1, l3, [u], _, rfl, rfl, r4 _ _ el1, upd_same, (by rw [List.length_replicate, sizeLine_eq]; simp only [List.length_cons, List.length_nil]; omega), fun l4 hl4 => ?_⟩
    have r5 := Same.new (o := .lst ([u] ++ List.replicate n lv)) r4 hl4
    refine ⟨l4, _, rfl, .inl ⟨SqL.of upd_same, fun q2 hq2 => ?_⟩⟩
    have r6 := Same.new (o := .tup ([u] ++ List.replicate n lv)) r5 hq2
    refine ⟨q1, q2, [.str l.1], _, rfl, rfl, SqT.of (r6 _ _ eq1), SqT.of upd_same, by simp, (by rw [List.length_append, List.length_replicate, sizeLine_eq]; simp only [List.length_cons, List.length_nil]; omega), fun e => absurd e (by simp), fun _ q3 hq3 => ?_⟩
    have r7 := Same.new (o := .tup ([.str l.1] ++ ([u] ++ List.replicate n lv))) r6 hq3
    have r37 := r3.trans r7
    have eW : SqT K (upd (upd (upd (upd Ha l3 (.lst (List.replicate n lv))) l4 (.lst ([u] ++ List.replicate n lv))) q2 (.tup ([u] ++ List.replicate n lv))) q3 (.tup ([.str l.1] ++ ([u] ++ List.replicate n lv)))) q3 (.str l.1 :: u :: List.replicate n lv) := SqT.of upd_same
    generalize (upd (upd (upd (upd Ha l3 (.lst (List.replicate n lv))) l4 (.lst ([u] ++ List.replicate n lv))) q2 (.tup ([u] ++ List.replicate n lv))) q3 (.tup ([.str l.1] ++ ([u] ++ List.replicate n lv)))) = Hb at *
    have e4 : Ext H2 Hb := e3.trans (.of r37)
    have T4 : LamX.Tabs TT Hb := T3.ext r37
    have inU : In K Hb u gt := hin2.ext e4
    have inL' : In K Hb lv gl := i1.ext e4
    have inW : In K Hb (.ref q3) (.t (.s l.1 :: gt :: List.replicate n gl)) := .t eW (.cons (.s _) (.cons inU (inL_rep inL' n)))
    have stay : ∀ (H5 : Hp) (w10 w11 : Option V), Ext H2 H5 → LamX.Tabs TT H5 → ∃ v5 v6 v7 v8 v9 v10 v11 : Option V, [some (V.ref d), some (.ref p), some (.ref ll), some u, some lv, some (.str l.1), some (.str l.2.1), some (.int l.2.2), some (.int (z : Int)), some (.ref q3), w10, w11] = [some (.ref d), some (.ref p), some (.ref ll), some u, some lv, v5, v6, v7, v8, v9, v10, v11] ∧ Ext H2 H5 ∧ LamX.Tabs TT H5 := fun H5 w10 w11 e t => ⟨_, _, _, _, _, _, _, rfl, e, t⟩
    refine ⟨_, rfl, _, _, rfl, rfl, _, rfl, ?_⟩
    refine ite2 (fun h0 => ?_) (fun h0 => ⟨_, _, _, _, _, _, _, rfl, e4, T4⟩)
    have fW : fine (.t (.s l.1 :: gt :: List.replicate n gl)) = true := fine_mk fun q hq => by
      rcases List.mem_cons.mp hq with rfl | hq
      · exact fine_s hnf
      · rcases List.mem_cons.mp hq with rfl | hq
        · exact hf
        · rw [List.eq_of_mem_replicate hq]
          exact i2.fine
    have sumR : ∀ n : Nat, ((List.replicate n gl).map sz).sum = n * sz gl := fun n => by
      induction n with
      | zero => simp
      | succ n ih => rw [List.replicate_succ, List.map_cons, List.sum_cons, ih, Nat.add_mul, Nat.one_mul, Nat.add_comm]
    have hnz : n * sz gl ≤ 4 * 2 := Nat.mul_le_mul hn4 (by omega)
    refine ⟨_, rfl, _, rfl, p, L, .ref q3, _, rfl, Sg2.ext e4, S.ok, inW, fW, by rw [sz_ts, List.map_cons, List.sum_cons, sumR]; omega, fun H5 s5 => ⟨_, rfl, ?_⟩⟩
    have e5 := e4.trans (.of s5)
    have T5 : LamX.Tabs TT H5 := T4.ext s5
    cases hl : lay0 L (.t (.s l.1 :: gt :: List.replicate n gl)) with
    | false => exact iteF ⟨_, _, _, _, _, _, _, rfl, e5, T5⟩
    | true =>
      refine iteT ?_
      refine ⟨_, rfl, (by show 1 ≤ sizeLine; decide), fun l5 hl5 => ?_⟩
      have r8 := Same.new (o := .lst [u]) (Same.refl H5) hl5
      have inU5 : In K H5 u gt := inU.same s5
      refine ⟨fun σ' H6 => ∃ (l6 : Addr) (us : List V), σ' = [some (.ref d), some (.ref p), some (.ref ll), some u, some lv, some (.str l.1), some (.str l.2.1), some (.int l.2.2), some (.int (z : Int)), some (.ref q3), some (.ref l6), v11] ∧ Same H5 H6 ∧ H6 l6 = some (.lst us) ∧ InL K H6 us (if rowish l.2.1 = true then oneP l.1 gt else [gt]), ?_, ?_⟩
      · refine ⟨_, rfl, (by show 2 ≤ sizeLine; decide), fun r hr0 => ⟨.str l.2.1, [.str "row", .str "heap"], .str _, .tup (SqT.of upd_same) (.cons (.str _) (.cons (.str _) .nil)), sk, by decide +kernel, _, rfl, ?_⟩⟩
        have r9 := Same.new (o := .tup [.str "row", .str "heap"]) r8 hr0
        have e9 := Same.new (o := .tup [.str "row", .str "heap"]) (Same.refl _) hr0 l5 _ upd_same
        refine ite2 (fun h2 => ?_) (fun h2 => ⟨l5, [u], rfl, r9, e9, by rw [if_neg (show ¬ rowish l.2.1 = true from h2)]; exact .cons (inU5.same r9) .nil⟩)
        have h2' : rowish l.2.1 = true := h2
        obtain ⟨dd, t1, t2⟩ := isi_str (inU5.same r9)
        refine ⟨_, rfl, _, _, _, _, _, rfl, .ty "str", t1, t2, _, rfl, ?_⟩
        rw [if_pos h2']
        rcases shp_cases hsh with ⟨x, rfl⟩ | ⟨y, ps, rfl, hp⟩
        · exact iteF ⟨l5, [u], rfl, r9, e9, .cons (inU5.same r9) .nil⟩
        · refine iteT ?_
          obtain ⟨a, zs, rfl, ha, hga⟩ := (inU5.same r9).tup
          obtain ⟨v0, e0, h0'⟩ := hga.get (i := 0) rfl
          obtain rfl := h0'.str
          refine ⟨_, rfl, a, zs, 0, _, rfl, rfl, ha, atI_nat (j := 0) e0, _, rfl, rfl, _, rfl, ?_⟩
          refine ite2 (fun h3 => ?_) (fun h3 => ?_)
          · have h3' : y = l.1 := V.str.inj (of_decide_eq_true h3)
            refine ⟨_, rfl, _, rfl, a, zs, rfl, ha, whole_1 (ne_nil hga), fun r2' hr2 => ⟨r2', _, rfl, .inr (SqT.of upd_same), fun l6 hl6 => ?_⟩⟩
            have r10 := Same.new (o := .tup (cutV zs (some 1) none)) r9 hr2
            have r11 := Same.new (o := .lst (cutV zs (some 1) none)) r10 hl6
            refine ⟨l6, _, rfl, r11, upd_same, ?_⟩
            have e1 : oneP l.1 (.t (.s y :: ps)) = ps := by rw [h3']; simp [oneP]
            rw [e1]
            have zz := (hga.drop 1).same (Same.new (o := .lst (cutV zs (some 1) none)) (Same.new (o := .tup (cutV zs (some 1) none)) (Same.refl _) hr2) hl6)
            rw [← cut_1] at zz
            exact zz
          · have h3' : y ≠ l.1 := fun z => h3 (by rw [z]; exact decide_eq_true rfl)
            exact ⟨l5, [V.ref a], rfl, r9, e9, by
              rw [oneP_no fun rs z => h3' (hd_inj z)]
              exact .cons (inU5.same r9) .nil⟩
      · rintro σ' H6 ⟨l6, us, rfl, s6, el6, hus⟩
        have inL6 : In K H6 lv gl := inL'.same (s5.trans s6)
        refine ⟨_, rfl, _, rfl, (by show 1 ≤ sizeLine; decide), fun l7 hl7 => ?_⟩
        have r9 := Same.new (o := .lst [lv]) (Same.refl H6) hl7
        have hol : (if rowish l.2.1 = true then oneP l.1 gt else [gt]).length ≤ 1000 := by
          split
          · by_cases e : ∃ rs, gt = .t (.s l.1 :: rs)
            · obtain ⟨rs, rfl⟩ := e
              have : oneP l.1 (.t (.s l.1 :: rs)) = rs := by simp [oneP]
              rw [this]
              have := len_sz rs
              rw [sz_ts] at hz
              omega
            · rw [oneP_no fun rs z => e ⟨rs, z⟩]
              simp
          · simp
        have hul := hus.len
        refine ⟨_, rfl, _, _, rfl, rfl, l7, _, [lv], rfl, rfl, upd_same, by omega, by omega, (by simp only [List.length_cons, List.length_nil]; rw [sizeLine_eq]; omega), fun l8 hl8 => ?_⟩
        rw [rep_flat, hN0]
        have r10 := Same.new (o := .lst (List.replicate n lv)) r9 hl8
        refine ⟨l6, l8, us, _, rfl, rfl, r10 _ _ el6, upd_same, (by rw [List.length_replicate, sizeLine_eq]; omega), fun l9 hl9 => ?_⟩
        have r11 := Same.new (o := .lst (us ++ List.replicate n lv)) r10 hl9
        have el9 : (upd (upd (upd H6 l7 (.lst [lv])) l8 (.lst (List.replicate n lv))) l9 (.lst (us ++ List.replicate n lv))) l9 = some (.lst (us ++ List.replicate n lv)) := upd_same
        generalize (upd (upd (upd H6 l7 (.lst [lv])) l8 (.lst (List.replicate n lv))) l9 (.lst (us ++ List.replicate n lv))) = H7 at *
        have eo : opn l.2.1 l.1 (gt :: List.replicate n gl) = (if rowish l.2.1 = true then oneP l.1 gt else [gt]) ++ List.replicate n gl := by
          unfold opn
          by_cases er : rowish l.2.1 = true
          · rw [if_pos er, if_pos er]
            have e1 : flat l.1 (gt :: List.replicate n gl) = oneP l.1 gt ++ flat l.1 (List.replicate n gl) := by unfold flat; rw [List.flatMap_cons]
            rw [e1, flat_rep (leaf_noHd i5.st i3 (by rw [ekd]; exact er))]
          · rw [if_neg er, if_neg er]
            rfl
        have in7 : InL K H7 (us ++ List.replicate n lv) (opn l.2.1 l.1 (gt :: List.replicate n gl)) := by
          rw [eo]
          exact (hus.same r11).app (inL_rep (inL6.same r11) n)
        have e7 := e5.trans (.of (s6.trans r11))
        have T7 : LamX.Tabs TT H7 := T5.ext (s6.trans r11)
        have hstW := (lay0_st hl).1
        have hpW : ∀ q ∈ gt :: List.replicate n gl, shp q = true ∧ fine q = true ∧ K1.dp q ≤ 14 ∧ sz q ≤ 1000 := fun q hq => by
          rcases List.mem_cons.mp hq with rfl | hq
          · exact ⟨hsh, hf, hd, hz⟩
          · rw [List.eq_of_mem_replicate hq]
            exact ⟨i2.shp, i2.fine, by omega, by omega⟩
        have hpO : ∀ q ∈ opn l.2.1 l.1 (gt :: List.replicate n gl), shp q = true ∧ fine q = true ∧ K1.dp q ≤ 14 ∧ sz q ≤ 1000 := fun q hq => by
          rcases opn_mem hq with hq | ⟨rs, h1, h2⟩
          · exact hpW q hq
          · obtain ⟨a1, a2, a3, a4⟩ := hpW _ h1
            have h2' : q ∈ G.s l.1 :: rs := List.mem_cons_of_mem _ h2
            refine ⟨?_, fine_mem a2 h2', ?_, ?_⟩
            · rcases shp_cases a1 with ⟨_, e⟩ | ⟨_, _, e, hq⟩
              · cases e
              · cases e
                exact hq q h2
            · have := dp_mem (n := 13) (by omega : K1.dp (.t (.s l.1 :: rs)) ≤ 13 + 1) h2'
              omega
            · have := sz_mem h2'
              omega
        refine ⟨fun σ' H8 => ∃ (l10 : Addr) (us' : List V), σ' = [some (.ref d), some (.ref p), some (.ref ll), some u, some lv, some (.str l.1), some (.str l.2.1), some (.int l.2.2), some (.int (z : Int)), some (.ref q3), some (.ref l6), some (.ref l10)] ∧ Ext H7 H8 ∧ LamX.Tabs TT H8 ∧ SqL K H8 l10 us' ∧ InL K H8 us' (arr l.2.1 l.1 (gt :: List.replicate n gl)), ?_, ?_⟩
        · refine ⟨_, rfl, (by show 2 ≤ sizeLine; decide), fun r hr0 => ⟨.str l.2.1, [.str "pair", .str "heap"], .str _, .tup (SqT.of upd_same) (.cons (.str _) (.cons (.str _) .nil)), sk, by decide +kernel, _, rfl, ?_⟩⟩
          have r12 := Same.new (o := .tup [.str "pair", .str "heap"]) (Same.refl H7) hr0
          refine ite2 (fun h2 => ?_) (fun h2 => ?_)
          · have h2' : loose l.2.1 = true := h2
            refine ⟨_, rfl, T7.ext r12, fun H8 eN T8 => ?_⟩
            have eN' : Ext H7 H8 := (Ext.of r12).trans eN
            obtain ⟨⟨z1, z2⟩, z3⟩ := zip_in (in7.ext eN')
            refine ⟨l9, (us ++ List.replicate n lv).zip (opn l.2.1 l.1 (gt :: List.replicate n gl)), text, rfl, by rw [z1]; exact SqL.of (eN' _ _ el9 (by intro _ z; cases z)), fun pr hpr H' sm => ?_, fun p3 H' sm hp3 => ?_⟩
            · obtain ⟨a1, a2⟩ := z3 pr hpr
              obtain ⟨b1, b2, b3, b4⟩ := hpO _ a2
              exact ⟨_, rfl, _, _, rfl, a1.same sm, b1, b2, by omega, by omega, fun H'' s'' => ⟨rfl, s''⟩⟩
            · have sN := Same.new (o := .lst ((((us ++ List.replicate n lv).zip (opn l.2.1 l.1 (gt :: List.replicate n gl))).mergeSort (SrtF.leK fun p => text p.2)).map Prod.fst)) sm hp3
              refine ⟨p3, _, rfl, eN'.trans (Ext.of sN), T8.ext sN, SqL.of upd_same, ?_⟩
              unfold arr
              rw [if_pos h2']
              have := sort_pairs (K := K) fun pr hpr => ((z3 pr hpr).1.same sN)
              rw [z2] at this
              exact this
          · refine ⟨l9, _, rfl, Ext.of r12, T7.ext r12, SqL.of (r12 _ _ el9), ?_⟩
            unfold arr
            rw [if_neg (show ¬ loose l.2.1 = true from h2)]
            exact in7.same r12
        · rintro σ' H8 ⟨l10, us', rfl, e8, T8, hl10, hus'⟩
          have e28 := e7.trans e8
          have eB8 : Ext Hb H8 := (Ext.of ((s5.trans s6).trans r11)).trans e8
          refine ⟨_, rfl, _, rfl, askT (Sg2.ext e28) S.ok (inW.ext eB8) fW (by rw [sz_ts, List.map_cons, List.sum_cons, sumR]; omega) hl fun H9 v9 s9 h9 => ?_⟩
          obtain ⟨pa, xs9, rfl, _, epa, i9⟩ := h9
          have elW : laid L (.t (.s l.1 :: gt :: List.replicate n gl)) = .t (.s l.1 :: arr l.2.1 l.1 (gt :: List.replicate n gl)) := by
            rw [laid_t, ekd, List.map_cons, hld, List.map_replicate, i5.ld]
          rw [elW] at i9
          have i9' : InL K H9 xs9 (arr l.2.1 l.1 (gt :: List.replicate n gl)) := i9
          refine ⟨_, rfl, gl_ne (SqL.of epa) (s9.seq hl10) i9' (hus'.same s9) (fun q hq => ?_) ⟨_, rfl, iteF ⟨_, _, _, _, _, _, _, rfl, e28.trans (.of s9), T8.ext s9⟩⟩⟩
          obtain ⟨b1, b2, b3, b4⟩ := hpO q ((arr_perm _ _ _).mem_iff.mp hq)
          exact ⟨b1, b2, by omega⟩
end
end K1
set_option Elab.async false
set_option linter.all false
set_option maxRecDepth 100000
set_option maxHeartbeats 4000000
namespace L2
open PySem PySem.Spec PyProof.Rows
section
variable {X : Cx}
theorem bl_beq (a b : Bool) : (Value.bool a == Value.bool b) = decide (a = b) := by
  cases a <;> cases b <;> rfl
theorem op_notB : OpR X (compareOp .IsNot) (fun x y H Q => ∃ a b, x = .bl a ∧ y = .bl b ∧ Q (.bl (!decide (a = b))) H) := by
  intro pins s σ H x y v u Q I rx ry h
  obtain ⟨a, b, rfl, rfl, q⟩ := h
  cases (show v = Value.bool a from rx)
  cases (show u = Value.bool b from ry)
  exact wpAny_isNot_plain rfl (fin_bl I q (congrArg not (bl_beq a b).symm))
end
end L2
namespace K1
open PySem PySem.Spec PyProof.Rows L2
open PySem.W (EachIs)
abbrev sLaw : Stmt := topS 76
abbrev nLaw : List Str := ["_law_script", "_law_state", "_law_turn", "_law_way", "_law_words_here", "_law_lines", "_law_loose_here", "_law_whole", "_law_stock", "_law_tree"]
theorem bl3 : Blk ["A", "Bx", "Zzzz"] := ⟨by decide, by decide, by decide +kernel, by decide +kernel, by decide +kernel⟩
def spLaw (K : PySem.W.Frag) (T : List (Addr × Str)) : Sp := fun vs H Q _ => ∃ (a : Addr) (ns : List Int), vs = [.ref a] ∧ SqL K H a (ns.map V.int) ∧ ns.length ≤ 63 ∧ LamX.Tabs T H ∧ ∀ H', Q (.bl true) H'
section
variable {P : Program} {w : World} {K : PySem.W.Frag} {mg : Str → Option Value} {base : Heap}
theorem scLaw : FnScope nLaw ["_law_script"] (defScope sLaw) := ⟨rfl, rfl, rfl, by decide +kernel, rfl, by decide +kernel, by decide +kernel⟩
theorem ok_law {f C CN CT fI cc f1 f2 : Addr} {fd fdI fd1 fd2 : FuncData} {TT : List (Addr × Str)} {M mt mn mo mi mr mb ms mw ma n : Nat} (F : FunC K "law" sLaw f fd cc)
    (B : Ct mg) (G : SgC K C) (gC : mg "Signs" = some (.ref C)) (MK : Mk K C fI) (FI : FnOk P w K mg base (L2.CX P w) 5 fI fdI ["self", "rows"] (spInit K C CN)) (bI : Binds K fdI ["self", "rows"] [])
    (DB : Df P w K mg base C8.CX0 "_law_begun" 1 ["_law_script"] (spBegun K)) (DT : Df P w K mg base C8.CX0 "_law_take" 2 ["_law_state", "_law_size"] spTake) (DA : Df P w K mg base C8.CX0 "_law_all_kinds" 4 ["_law_state"] (spKinds7 K TT))
    (DN : Df P w K mg base C8.CX0 "_law_near_bounds" mn ["_law_state", "_law_words_here"] (spNear K TT)) (DR : Df P w K mg base C8.CX0 "_law_sign_rows" 4 ["_law_state"] (spSgR K TT)) (DTe : Df P w K mg base C8.CX0 "_law_term" mt ["_law_state", "_law_lines", "_law_blanks", "_law_room", "_law_height"] (spTerm K TT 8))
    (DDr : Df P w K mg base C8.CX0 "_law_draft" mo ["_law_state", "_law_kinds_here", "_law_tree"] (spDraftT K TT)) (DK : Df P w K mg base C8.CX0 "_law_kinds" 1 ["_law_lines"] (spKinds K))
    (DI : Df P w K mg base C8.CX0 "is_draft" mi ["signs", "thing"] (spIs K C lay0)) (DI2 : Df P w K mg base C8.CX0 "is_term" mi ["signs", "thing"] (spIs K C isTermB))
    (F1 : FnOk P w K mg base (L2.CX P w) mb f1 fd1 ["signs", "draft"] (spAsk K C CT (aLaid K))) (g1 : mg "laid" = some (.ref f1)) (k1 : PySem.W.keepIn K (.ref f1) = true) (b1 : Binds K fd1 ["signs", "draft"] [])
    (F2 : FnOk P w K mg base (L2.CX P w) mb f2 fd2 ["signs", "term"] (spAsk K C CT aText)) (g2 : mg "term_text" = some (.ref f2)) (k2 : PySem.W.keepIn K (.ref f2) = true) (b2 : Binds K fd2 ["signs", "term"] [])
    (DRd : Df P w K mg base C8.CX0 "read_term" mr ["signs", "text"] (spRead K C)) (DAh : Df P w K mg base C8.CX0 "_law_ahead" ma ["_law_state", "_law_stock", "_law_loose_here"] (spAhd K TT C n))
    (DS : Df P w K mg base C8.CX0 "_law_same_by_names" ms ["_law_state", "_law_stock", "_law_lines", "_law_loose_here", "_law_tree"] (spSbn K TT C)) (DW : Df P w K mg base C8.CX0 "_law_within_right" mw ["_law_state", "_law_stock", "_law_lines", "_law_tree"] (spWr K TT C))
    (h6 : 6 ≤ M) (hmt : mt ≤ M) (hmn : mn ≤ M) (hmo : mo ≤ M) (hmi : mi ≤ M) (hmb : mb ≤ M) (hmr : mr ≤ M) (hms : ms ≤ M) (hmw : mw ≤ M) (hma : ma ≤ M) (hn : 14 ≤ n) :
    FnG P w K mg base (M + 1) f fd ["_law_script"] (spLaw K TT) := by
  refine F.okG scLaw (fun vs H Q E h => ?_) (fun A outer s H vs Q E hg hr h => ?_)
  · obtain ⟨a, ns, rfl, _⟩ := h
    rfl
  · obtain ⟨a, ns, rfl, hS, hns, hTab, k⟩ := h
    have hr6 : Room 6 _ := hr.mono h6
    have hrb : Room mb _ := hr.mono hmb
    have hri : Room mi _ := hr.mono hmi
    refine ⟨_, pss_cons (ps_set (i := 1) scLaw.nd rfl (Or.inl rfl) (pe_df DB hr6 pass0 (pa_cons (pv 0) pa_nil)))
      (pss_cons (ps_for PassesOwn.never rfl (pi_range1 rfl B.range (pa_cons pe_int pa_nil)) (pg_name (i := 2) scLaw.nd rfl (Or.inl rfl))
        (pss_cons (ps_set (i := 3) scLaw.nd rfl (Or.inl rfl) (pe_df DT hr6 pass0 (pa_cons (pv 1) (pa_cons pe_int pa_nil))))
        (pss_cons (ps_asg (pe_df DA hr6 pass0 (pa_cons (pv 1) pa_nil)) (pg_tup rfl (pgs_cons (pg_name (i := 4) scLaw.nd rfl (Or.inl rfl)) (pgs_cons (pg_name (i := 5) scLaw.nd rfl (Or.inl rfl)) pgs_nil))))
        (pss_cons (ps_set (i := 6) scLaw.nd rfl (Or.inl rfl) (pe_df DN (hr.mono hmn) pass0 (pa_cons (pv 1) (pa_cons (pv 4) pa_nil)) (Nat.le_refl _)))
        (C8.pss_cut (ps_if (pt_cmpR op_gt (pv 3) pe_int (nomark _))
          (pss_cons (ps_set (i := 5) scLaw.nd rfl (Or.inl rfl) (pe_df DR hr6 pass0 (pa_cons (pv 1) pa_nil)))
          (pss_cons (ps_set (i := 7) scLaw.nd rfl (Or.inl rfl) (pe_df DTe (hr.mono hmt) pass0 (pa_cons (pv 1) (pa_cons (pv 5) (pa_cons (pe_lst (pa_cons pe_str (pa_cons pe_str (pa_cons pe_str pa_nil)))) (pa_cons pe_int (pa_cons pe_int pa_nil))))) (Nat.le_refl _)))
          (pss_one (ps_set (i := 6) scLaw.nd rfl (Or.inl rfl) (pe_df DDr (hr.mono hmo) pass0 (pa_cons (pv 1) (pa_cons (pe_df DK hr6 pass0 (pa_cons (pv 5) pa_nil)) (pa_cons (pv 7) pa_nil))) (Nat.le_refl _)))))) pss_nil)
        (pss_cons (ps_set (i := 8) scLaw.nd rfl (Or.inl rfl) (pe_make MK FI hr6 (by rfl) gC bI .nil passX (pa_cons (pv 5) pa_nil)))
        (pss_one (ps_if (pt_val (pe_df DI hri pass0 (pa_cons (pv 8) (pa_cons (pv 6) pa_nil)) (Nat.le_refl _)))
          (pss_cons (ps_set (i := 9) scLaw.nd rfl (Or.inl rfl) (pe_call F1 hrb (by rfl) g1 k1 b1 .nil passX (pa_cons (pv 8) (pa_cons (pv 6) pa_nil))))
          (pss_cons (ps_if (PW.pt (pw_or (pt_cmpR (op_neD hr.units) (pe_call F1 hrb (by rfl) g1 k1 b1 .nil passX (pa_cons (pv 8) (pa_cons (pv 9) pa_nil))) (pv 9) (nomark _)) (pw_or1 (pt_cmpR op_notB (pe_df DI2 hri pass0 (pa_cons (pv 8) (pa_cons (pv 9) pa_nil)) (Nat.le_refl _)) pe_bl (nomark _))))) (pss_one (ps_ret pe_bl)) pss_nil)
          (pss_cons (ps_if (pt_cmpR (op_neD hr.units) (pe_call F1 hrb (by rfl) g1 k1 b1 .nil passX (pa_cons (pv 8) (pa_cons (pe_df DAh (hr.mono hma) pass0 (pa_cons (pv 1) (pa_cons (pv 8) (pa_cons (pv 6) pa_nil))) (Nat.le_refl _)) pa_nil))) (pv 9) (nomark _)) (pss_one (ps_ret pe_bl)) pss_nil)
          (pss_cons (ps_if (pt_cmpR (op_neD hr.units) (pe_df DRd (hr.mono hmr) pass0 (pa_cons (pv 8) (pa_cons (pe_call F2 hrb (by rfl) g2 k2 b2 .nil passX (pa_cons (pv 8) (pa_cons (pv 6) pa_nil))) pa_nil)) (Nat.le_refl _)) (pv 9) (nomark _)) (pss_one (ps_ret pe_bl)) pss_nil)
          (pss_cons (ps_if (pt_not (pt_val (pe_df DS (hr.mono hms) pass0 (pa_cons (pv 1) (pa_cons (pv 8) (pa_cons (pv 5) (pa_cons (pv 6) (pa_cons (pv 9) pa_nil))))) (Nat.le_refl _)))) (pss_one (ps_ret pe_bl)) pss_nil)
          (pss_one (ps_if (pt_not (pt_val (pe_df DW (hr.mono hmw) pass0 (pa_cons (pv 1) (pa_cons (pv 8) (pa_cons (pv 5) (pa_cons (pv 9) pa_nil)))) (Nat.le_refl _)))) (pss_one (ps_ret pe_bl)) pss_nil)))))))
          pss_nil))))))))
      (pss_one (ps_ret pe_bl))), ?_⟩
    have budg_eq : (6 : Nat) ^ (8 + 1) = 10077696 := by decide
    refine ⟨_, rfl, a, ns, rfl, hS, hns, fun d g c H1 G1 s1 _ _ => ?_⟩
    refine ⟨3, rfl, by decide, by decide, for_range (lo := 0) (n := 3) (fun i σ H' => ∃ v2 v3 v4 v5 v6 v7 v8 v9 : Option V, σ = [some (.ref a), some (.ref d), v2, v3, v4, v5, v6, v7, v8, v9] ∧ Wd TT d g c (10090000 * i) H')
      ⟨none, none, none, none, none, none, none, none, rfl, G1, hTab.ext s1⟩ ?_ ?_⟩
    rotate_left
    · rintro σ H2 ⟨v2, v3, v4, v5, v6, v7, v8, v9, rfl, W2⟩
      exact k H2
    · rintro i σ H2 hi ⟨v2, v3, v4, v5, v6, v7, v8, v9, rfl, W2⟩
      refine ⟨_, rfl, d, g, c, _, 3, rfl, W2.G, by omega, by decide, by decide, fun way H3 w0 w1 G3 q3 => ?_⟩
      have W3 := W2.kp G3 q3
      refine ⟨_, rfl, d, g, c, _, rfl, W3, by omega, fun pt lw ll ws L xs H5 hpt ew wl ww ex hdp S W5 n45 => ?_⟩
      refine ⟨pt, _, rfl, hpt, rfl, _, _, rfl, _, _, rfl, rfl, ?_⟩
      refine ⟨_, rfl, _, rfl, d, g, c, lw, _, ws, rfl, W5, ew, wl, ww, by omega, fun vb H6 q W6 n6 => ?_⟩
      obtain ⟨gb, x1, x2, x3, x4, x5, x6⟩ := q
      have ex6 := n6.hid _ _ ex (by intro _ z; cases z)
      have hd6 := dpr_ext n6.hid _ hdp
      refine ⟨fun σ' H' => ∃ (lw' ll : V) (la : Addr) (L : List Ln) (xs : List V) (v : V) (gg : K1.G) (v7 : Option V), σ' = [some (.ref a), some (.ref d), some (.int (0 + i)), some (.int way), some lw', some (.ref la), some v, v7, v8, v9] ∧ Wd TT d g c (10090000 * i + 10079000) H' ∧
        hid [d, g] H' la = some (.lst xs) ∧ DpAll K (hid [d, g] H') xs (L.map rowD) ∧ Sg L ∧ In K H' v gg ∧ shp gg = true ∧ fine gg = true ∧ GpB gg ∧ sz gg ≤ 320, ?_, ?_⟩
      · refine ⟨_, rfl, _, _, rfl, rfl, _, rfl, ?_⟩
        refine ite2 (fun h1 => ?_) (fun h1 => ⟨_, .non, ll, L, xs, vb, gb, _, rfl, W6.mono (by omega), ex6, hd6, S.sg, x1, x2, x3, x6, x4⟩)
        refine ⟨_, rfl, d, g, c, _, rfl, W6, by omega, fun la L7 xs7 H7 ex7 hd7 S7 W7 n67 => ?_⟩
        obtain ⟨lad, lag, ex70⟩ := hid_got ex7
        refine ⟨_, rfl, _, rfl, (by show 3 ≤ sizeLine; decide), fun bl hbl => ?_⟩
        have s8 := Same.new (o := .lst [.str "A", .str "Bx", .str "Zzzz"]) (Same.refl H7) hbl
        obtain ⟨bd, bg⟩ := W7.G.nd hbl
        have n78 : Kn d g H7 _ := .same s8
        have W8 := W7.same s8
        have Sd8 : Sd K d g la bl L7 ["A", "Bx", "Zzzz"] xs7 _ := ⟨n78.hid _ _ ex7 (by intro _ z; cases z), dpr_ext n78.hid _ hd7, hid_get bd bg upd_same, S7.ok, S7.nd, S7.ne, bl3⟩
        refine ⟨d, g, c, la, bl, _, L7, _, xs7, 30, 6, rfl, W8, Sd8, by omega, by decide, by decide, by decide, fun vt H9 hv9 W9 n89 => ?_⟩
        obtain ⟨gt, t1, t2, t3, t4, t5⟩ := hv9
        have Sd9 := Sd8.kn n89
        refine ⟨_, rfl, _, rfl, la, L7, rfl, Sd9.lstH, S7.ok, S7.nd, fun H10 ka s10 hka => ?_⟩
        have W10 := W9.same s10
        obtain ⟨kad, kag⟩ : ka ≠ d ∧ ka ≠ g := by
          obtain ⟨_, gs, cs, r, u, e1, e2, e3, e4⟩ := W10.G
          refine ⟨fun z => ?_, fun z => ?_⟩
          · rw [z, e1] at hka
            exact kd_ne (HO.dK.inj (Option.some.inj hka)).symm
          · rw [z, e2] at hka
            cases hka
        refine ⟨_, rfl, d, g, c, ka, _, L7, vt, gt, rfl, W10, hid_get kad kag hka, S7.ok, t1.same s10, t2, t5.st, by omega, by omega, by omega, fun v' H11 hv11 W11 n11 => ?_⟩
        obtain ⟨g', a1, a2, a3, a4, a5⟩ := hv11
        have n711 := (n78.trans n89).trans ((Kn.same s10).trans n11)
        have hsz := a2.sz
        refine ⟨_, .non, la, L7, xs7, v', g', _, rfl, W11.mono (by omega), n711.hid _ _ ex7 (by intro _ z; cases z), dpr_ext n711.hid _ hd7, S7, a1, a2.shp, a2.fine, fun z hz => ?_, by omega⟩
        have z1 := (gaps_laid (L := L7) (x := z) _ g' (Nat.le_refl _) a2.shp).mpr hz
        rw [a5.ld, t5.ld] at z1
        exact t5.gp z z1
      · rintro σ' H7 ⟨lw', ll', la, L7, xs7, v, gg, v7', rfl, W7, ex7, hd7, S7, in7, sh7, fi7, gp7, sz7⟩
        obtain ⟨lad, lag, ex70⟩ := hid_got ex7
        have dm7 : Dm K H7 (.ref la) (.list (L7.map rowD)) := .dat (.lst (SqL.of ex70) (dp_sameAll hid_le _ _ hd7))
        refine ⟨_, rfl, fun x dx hx hdx hxd => ?_⟩
        have m0 := same_made0 (C := C) hx hdx
        refine ⟨x, dx, .ref la, .list (L7.map rowD), rfl, upd_same, dm7.same m0, S7.data, fun _ rt td ys H8 A8 D8 td0 keep => ⟨rfl, ?_⟩, fun z => absurd z (by rw [S7.signs]; decide)⟩
        have s78 := same_made hx hdx keep
        have ens : (itemsD (.list (L7.map rowD))).map nameOf = L7.map (·.1) := by
          show (L7.map rowD).map nameOf = _
          rw [List.map_map]
          rfl
        rw [ens] at A8
        have W8 := W7.same s78
        have tdn : H7 td = none := by
          cases e : H7 td with
          | none => rfl
          | some o => rw [m0 _ _ e] at td0; cases td0
        obtain ⟨xd, xg⟩ := W7.G.nd hx
        obtain ⟨tdd, tdg⟩ := W7.G.nd tdn
        have Sg8 : SgL K C (hid [d, g] H8) x L7 := sgl_hid A8 D8 W8.G xd xg tdd tdg
        have n78 : Kn d g H7 H8 := .same s78
        have ex8 := n78.hid _ _ ex7 (by intro _ z; cases z)
        have hd8 := dpr_ext n78.hid _ hd7
        have in8 := in7.same s78
        refine ⟨_, rfl, _, rfl, x, L7, v, gg, rfl, Sg8.same hid_le, S7.ok, in8, fi7, by omega, fun H9 s9 => ⟨_, rfl, ?_⟩⟩
        have W9 := W8.same s9
        cases hl : lay0 L7 gg with
        | false => exact iteF ⟨_, _, _, _, _, _, _, _, rfl, W9.mono (by omega)⟩
        | true =>
          refine iteT ?_
          obtain ⟨hL, _, hd13⟩ := lay0_less hl fi7
          have hst2 := stands_laid _ gg (Nat.le_refl _) (lay0_st hl).1 (lay0_st hl).2.2.2.2.2
          have hlT : lay0 L7 (laid L7 gg) = true := lay0_laid hl
          have zL := hL.sz
          have dL := hL.dp
          have S89 : SgL K C H9 x L7 := (Sg8.same hid_le).same s9
          refine ⟨_, rfl, _, rfl, askT S89 S7.ok (in8.same s9) fi7 (by omega) hl fun H10 u s10 hu => ?_⟩
          have S10 := S89.same s10
          refine ⟨_, rfl, _, rfl, askT S10 S7.ok hu hL.fine (by omega) hlT fun H11 v1 s11 h11 => ?_⟩
          rw [laid_laid] at h11
          refine ⟨_, rfl, ne_go h11 (hu.same s11) hL.shp hL.shp hL.fine hL.fine (by omega) (by omega) ?_⟩
          refine ⟨_, rfl, iteF_ (by simp) ?_⟩
          refine ⟨_, rfl, _, rfl, x, L7, u, laid L7 gg, rfl, S10.same s11, S7.ok, hu.same s11, hL.fine, by omega, fun H12 s12 => ?_⟩
          have hT : isTermB L7 (laid L7 gg) = true := by
            unfold isTermB
            rw [hlT, laid_laid, eqv_toD _ _ _ (Nat.le_refl _) hL.shp hL.shp]
            simp
          rw [hT]
          refine ⟨_, _, rfl, rfl, _, rfl, iteF_ (by simp) ?_⟩
          have s8z := (s9.trans s10).trans (s11.trans s12)
          have n8z : Kn d g H8 H12 := .same s8z
          have W12 := W8.same s8z
          have in12 := in8.same s8z
          have u12 := hu.same (s11.trans s12)
          refine ⟨_, rfl, _, rfl, _, rfl, _, rfl, d, g, c, x, _, L7, v, gg, rfl, W12, Sg8.ext n8z.hid, S7.ok, in12, hl, fi7, by omega, by omega, by have := (lay0_st hl).2.1; omega, fun va H13 hva W13 n13 => ?_⟩
          obtain ⟨ga, ia, aa⟩ := hva
          have n8a := n8z.trans n13
          have tk13 := W12.G.tk n13
          have Sg13 := Sg8.ext n8a.hid
          have in13 := in_tk tk13 _ _ sh7 in12
          have u13 := in_tk tk13 _ _ hL.shp u12
          have hp80 := (lay0_st hl).2.1
          have szA : sz ga ≤ 2000 := by
            have := (sz_pts _ ga (Nat.le_refl _) aa.shp).1
            have := aa.pt
            omega
          refine askT (Sg13.same hid_le) S7.ok ia aa.fn szA (aa.lay hl) fun H14 vb s14 hb => ?_
          rw [aa.ld] at hb
          refine ⟨_, rfl, ne_go hb (u13.same s14) hL.shp hL.shp hL.fine hL.fine (by omega) (by omega) ?_⟩
          refine ⟨_, rfl, iteF_ (by simp) ?_⟩
          refine ⟨_, rfl, _, rfl, _, rfl, askT ((Sg13.same hid_le).same s14) S7.ok (in13.same s14) fi7 (by omega) hl fun H15 vc s15 h15 => ?_⟩
          obtain rfl : vc = .str (text (laid L7 gg)) := h15
          have s13b := s14.trans s15
          refine ⟨x, L7, laid L7 gg, rfl, (Sg13.same hid_le).same s13b, S7.ok, hL.fine, by omega, hlT, fun H16 vd s16 h16 => ?_⟩
          rw [laid_laid] at h16
          have s13c := s13b.trans s16
          refine ⟨_, rfl, ne_go h16 (u13.same s13c) hL.shp hL.shp hL.fine hL.fine (by omega) (by omega) ?_⟩
          refine ⟨_, rfl, iteF_ (by simp) ?_⟩
          have n8c := n8a.trans (.same s13c)
          have W16 := W13.same s13c
          refine ⟨_, rfl, _, rfl, _, rfl, _, rfl, _, rfl, d, g, c, x, la, _, L7, xs7, v, u, gg, rfl, W16, Sg8.ext n8c.hid, n8c.hid _ _ ex8 (by intro _ z; cases z), dpr_ext n8c.hid _ hd8, S7, in13.same s13c, u13.same s13c, hl, fi7, gp7, by omega, by omega, fun H17 W17 n17 => ⟨_, rfl, iteF_ (by decide) ?_⟩⟩
          have n8d := n8c.trans n17
          refine ⟨_, rfl, _, rfl, _, rfl, _, rfl, d, g, c, x, la, _, L7, xs7, u, laid L7 gg, rfl, W17, Sg8.ext n8d.hid, n8d.hid _ _ ex8 (by intro _ z; cases z), dpr_ext n8d.hid _ hd8, S7, in_tk (W16.G.tk n17) _ _ hL.shp (u13.same s13c), hst2, laid_laid L7 gg, hL.fine, by omega, by omega, by omega, fun H18 W18 n18 => ⟨_, rfl, iteF_ (by decide) ?_⟩⟩
          exact ⟨_, _, _, _, _, _, _, _, rfl, W18.mono (by omega)⟩
end
end K1
set_option Elab.async false
set_option linter.all false
set_option maxRecDepth 100000
set_option maxHeartbeats 4000000
namespace K1
open PySem PySem.Spec PyProof.Rows L2
theorem tabs_nil {T : List (Addr × Str)} {cs : List (Addr × Addr)} {H : Hp} (h : ∀ p ∈ T, ∃ q ∈ cs, q.2 = p.1) (hH : ∀ p ∈ cs, H p.2 = some (.tbl #[])) : LamX.Tabs T H := fun p hp => by
  obtain ⟨q, hq, e⟩ := h p hp
  rw [← e]
  exact LamX.TabS.nil (hH q hq)
theorem dfk {P : Program} {w : World} {K : PySem.W.Frag} {mg : Str → Option Value} {base : Heap} {x : Str} {k : Nat} {ps : List Str} {sp : Sp} {f : Addr} {fd : FuncData} (h : FnOk P w K mg base C8.CX0 k f fd ps sp) (g : mg x = some (.ref f)) (kp : PySem.W.keepIn K (.ref f) = true) (b : Binds K fd ps []) : Df P w K mg base C8.CX0 x k ps sp := ⟨f, fd, h, g, kp, b⟩
theorem Df.up {P : Program} {w : World} {K : PySem.W.Frag} {mg : Str → Option Value} {base : Heap} {x : Str} {k j : Nat} {ps : List Str} {sp : Sp} (D : Df P w K mg base C8.CX0 x k ps sp) (h : k ≤ j) : Df P w K mg base C8.CX0 x j ps sp := by
  obtain ⟨f, fd, F, g, kp, b⟩ := D
  exact ⟨f, fd, F.mono h, g, kp, b⟩
theorem df_chain {P : Program} {w : World} {K : PySem.W.Frag} {mg : Str → Option Value} {base : Heap} {x : Str} {ps : List Str} (k : Nat → Nat) (sp : Nat → Sp) {f : Addr} {fd : FuncData} (g : mg x = some (.ref f)) (kp : PySem.W.keepIn K (.ref f) = true) (b : Binds K fd ps [])
    (h0 : FnOk P w K mg base C8.CX0 (k 0) f fd ps (sp 0)) (hs : ∀ n, Df P w K mg base C8.CX0 x (k n) ps (sp n) → FnOk P w K mg base C8.CX0 (k (n + 1)) f fd ps (sp (n + 1))) : ∀ n, Df P w K mg base C8.CX0 x (k n) ps (sp n)
  | 0 => ⟨f, fd, h0, g, kp, b⟩
  | n + 1 => ⟨f, fd, hs n (df_chain k sp g kp b h0 hs n), g, kp, b⟩
theorem df_chainB {P : Program} {w : World} {K : PySem.W.Frag} {mg : Str → Option Value} {base : Heap} {x : Str} {ps : List Str} (b0 : Nat) (k : Nat → Nat) (sp : Nat → Sp) {f : Addr} {fd : FuncData} (g : mg x = some (.ref f)) (kp : PySem.W.keepIn K (.ref f) = true) (b : Binds K fd ps [])
    (h0 : FnOk P w K mg base C8.CX0 (k 0) f fd ps (sp 0)) (hs : ∀ n, n < b0 → Df P w K mg base C8.CX0 x (k n) ps (sp n) → FnOk P w K mg base C8.CX0 (k (n + 1)) f fd ps (sp (n + 1))) : ∀ n, n ≤ b0 → Df P w K mg base C8.CX0 x (k n) ps (sp n)
  | 0, _ => ⟨f, fd, h0, g, kp, b⟩
  | n + 1, h => ⟨f, fd, hs n h (df_chainB b0 k sp g kp b h0 hs n (Nat.le_of_lt h)), g, kp, b⟩
theorem no_anew0 {K : PySem.W.Frag} {C : Addr} (vs : List V) (H : Hp) (Q : VK) (E : XK) : ¬ spAnew K C 0 vs H Q E := by
  rintro ⟨p, L, v, g, _, _, _, _, _, _, h, _⟩
  have := dp_pos g
  omega
theorem no_laid0 {K : PySem.W.Frag} {TT : List (Addr × Str)} (vs : List V) (H : Hp) (Q : VK) (E : XK) : ¬ spLLaid K TT 0 vs H Q E := by
  rintro ⟨a, L, v, g, _, _, _, _, _, _, h, _⟩
  have := dp_pos g
  omega
theorem no_term0 {K : PySem.W.Frag} {TT : List (Addr × Str)} (vs : List V) (H : Hp) (Q : VK) (E : XK) : ¬ spTerm K TT 0 vs H Q E := by
  rintro ⟨d, g, c, ll, bl, t, L, bs, xs, r, h, _, _, _, _, _, _, hh, _⟩
  omega
theorem no_loose0 {K : PySem.W.Frag} {TT : List (Addr × Str)} (vs : List V) (H : Hp) (Q : VK) (E : XK) : ¬ spLoose K TT 0 vs H Q E := by
  rintro ⟨d, g, c, ka, t, L, v, gg, _, _, _, _, _, _, _, h, _⟩
  have := dp_pos gg
  omega
theorem no_gof0 {K : PySem.W.Frag} (vs : List V) (H : Hp) (Q : VK) (E : XK) : ¬ spGapsOf K 0 vs H Q E := by
  rintro ⟨v, g, _, _, _, h, _⟩
  have := dp_pos g
  omega
theorem no_lgs0 {K : PySem.W.Frag} (vs : List V) (H : Hp) (Q : VK) (E : XK) : ¬ spLGaps K 0 vs H Q E := by
  rintro ⟨v, g, _, _, _, h, _⟩
  have := dp_pos g
  omega
theorem no_ofp0 {K : PySem.W.Frag} (vs : List V) (H : Hp) (Q : VK) (E : XK) : ¬ spOfP K 0 vs H Q E := by
  rintro ⟨lw, ws, n, _, _, _, _, h, _⟩
  cases h
theorem no_cld0 {K : PySem.W.Frag} (vs : List V) (H : Hp) (Q : VK) (E : XK) : ¬ spCld K 0 vs H Q E := by
  rintro ⟨a, L, gs, r, v, g, _, _, _, _, _, h, _⟩
  have := dp_pos g
  omega
theorem no_ahd0 {K : PySem.W.Frag} {TT : List (Addr × Str)} {C : Addr} (vs : List V) (H : Hp) (Q : VK) (E : XK) : ¬ spAhd K TT C 0 vs H Q E := by
  rintro ⟨d, g, c, p, t, L, v, gg, _, _, _, _, _, _, _, h, _⟩
  have := dp_pos gg
  omega
theorem all_mk {l : PySem.W.OpenLaw} {w : World} {K : PySem.W.Frag} {h : Heap} {mg : Str → Option Value} {fa C CN CT PL PR aM fNum fLst fSma fNam fGap fSig fTex fPts fDee fWid fBey fHPa fDpt fMad fOpe fAne fOrn fDra fTer fPrw fPto fWof fTof fDof fRea fLad fPoi fDep fGof fGas fTtx fBeg fMix fTak fPic fWor fSgr fLKi fLTe fLPo fLDe fLea fTrm fLoo fDft fKin fOfP fNea fLGs fAhd fCld fCgs fWri fSbn fLai fLaw fmIn fmHa fmKi fmMa kLai kLaw kWri : Addr} (X : K.In h) (G : h.Ns mainGlobals mg) (hfa : mg "law" = some (.ref fa))
    {cdNum ocNum kVNum dcNum pmNum ctNum cdLst ocLst kVLst dcLst pmLst ctLst cdSma ocSma kVSma dcSma pmSma ctSma cdNam ocNam kVNam dcNam pmNam ctNam cdGap ocGap kVGap dcGap pmGap ctGap cdSig ocSig kVSig dcSig pmSig ctSig cdTex ocTex kVTex dcTex pmTex ctTex cdPts ocPts kVPts dcPts pmPts ctPts cdDee ocDee kVDee dcDee pmDee ctDee cdWid ocWid kVWid dcWid pmWid ctWid cdBey ocBey kVBey dcBey pmBey ctBey cdHPa ocHPa kVHPa dcHPa pmHPa ctHPa cdDpt ocDpt kVDpt dcDpt pmDpt ctDpt cdMad ocMad kVMad dcMad pmMad ctMad cdOpe ocOpe kVOpe dcOpe pmOpe ctOpe cdAne ocAne kVAne dcAne pmAne ctAne cdOrn ocOrn kVOrn dcOrn pmOrn ctOrn cdDra ocDra kVDra dcDra pmDra ctDra cdTer ocTer kVTer dcTer pmTer ctTer cdPrw ocPrw kVPrw dcPrw pmPrw ctPrw cdPto ocPto kVPto dcPto pmPto ctPto cdWof ocWof kVWof dcWof pmWof ctWof cdTof ocTof kVTof dcTof pmTof ctTof cdDof ocDof kVDof dcDof pmDof ctDof cdRea ocRea kVRea dcRea pmRea ctRea cdLad ocLad kVLad dcLad pmLad ctLad cdPoi ocPoi kVPoi dcPoi pmPoi ctPoi cdDep ocDep kVDep dcDep pmDep ctDep cdGof ocGof kVGof dcGof pmGof ctGof cdGas ocGas kVGas dcGas pmGas ctGas cdTtx ocTtx kVTtx dcTtx pmTtx ctTtx cdBeg ocBeg kVBeg dcBeg pmBeg ctBeg cdMix ocMix kVMix dcMix pmMix ctMix cdTak ocTak kVTak dcTak pmTak ctTak cdPic ocPic kVPic dcPic pmPic ctPic cdWor ocWor kVWor dcWor pmWor ctWor cdSgr ocSgr kVSgr dcSgr pmSgr ctSgr cdLKi ocLKi kVLKi dcLKi pmLKi ctLKi cdLTe ocLTe kVLTe dcLTe pmLTe ctLTe cdLPo ocLPo kVLPo dcLPo pmLPo ctLPo cdLDe ocLDe kVLDe dcLDe pmLDe ctLDe cdLea ocLea kVLea dcLea pmLea ctLea cdTrm ocTrm kVTrm dcTrm pmTrm ctTrm cdLoo ocLoo kVLoo dcLoo pmLoo ctLoo cdDft ocDft kVDft dcDft pmDft ctDft cdKin ocKin kVKin dcKin pmKin ctKin cdOfP ocOfP kVOfP dcOfP pmOfP ctOfP cdNea ocNea kVNea dcNea pmNea ctNea cdLGs ocLGs kVLGs dcLGs pmLGs ctLGs cdAhd ocAhd kVAhd dcAhd pmAhd ctAhd cdCld ocCld kVCld dcCld pmCld ctCld cdCgs ocCgs kVCgs dcCgs pmCgs ctCgs ocWri kVWri dcWri pmWri ctWri cdSbn ocSbn kVSbn dcSbn pmSbn ctSbn ocLai kVLai dcLai pmLai ctLai ocLaw kVLaw dcLaw pmLaw ctLaw cdmIn ocmIn kVmIn dcmIn pmmIn ctmIn cdmHa ocmHa kVmHa dcmHa pmmHa ctmHa cdmKi ocmKi kVmKi dcmKi pmmKi ctmKi cdmMa ocmMa kVmMa dcmMa pmmMa ctmMa : Value} {odNum anNum odLst anLst odSma anSma odNam anNam odGap anGap odSig anSig odTex anTex odPts anPts odDee anDee odWid anWid odBey anBey odHPa anHPa odDpt anDpt odMad anMad odOpe anOpe odAne anAne odOrn anOrn odDra anDra odTer anTer odPrw anPrw odPto anPto odWof anWof odTof anTof odDof anDof odRea anRea odLad anLad odPoi anPoi odDep anDep odGof anGof odGas anGas odTtx anTtx odBeg anBeg odMix anMix odTak anTak odPic anPic odWor anWor odSgr anSgr odLKi anLKi odLTe anLTe odLPo anLPo odLDe anLDe odLea anLea odTrm anTrm odLoo anLoo odDft anDft odKin anKin odOfP anOfP odNea anNea odLGs anLGs odAhd anAhd odCld anCld odCgs anCgs odWri anWri odSbn anSbn odLai anLai odLaw anLaw odmIn anmIn odmHa anmHa odmKi anmKi odmMa anmMa : Option Addr} {slNum slLst slSma slNam slGap slSig slTex slPts slDee slWid slBey slHPa slDpt slMad slOpe slAne slOrn slDra slTer slPrw slPto slWof slTof slDof slRea slLad slPoi slDep slGof slGas slTtx slBeg slMix slTak slPic slWor slSgr slLKi slLTe slLPo slLDe slLea slTrm slLoo slDft slKin slOfP slNea slLGs slAhd slCld slCgs slWri slSbn slLai slLaw slmIn slmHa slmKi slmMa : Array (Option Value)} {tSM tNL tMS tMP tGR tGL tPO tDE tPA : PySem.Tok}
    {odM : Option Addr} {tM1 tM2 tM3 : PySem.Tok} {nM : Nat} {slM : Array (Option Value)} {ts : List Addr} (hT : ∀ P ∈ ts, h.get? P = some (PySem.W.tabObj #[]))
    (gC : PySem.W.nsIn K mainGlobals "Signs" = some (some (.ref C)))
    (gCN : PySem.W.nsIn K mainGlobals "NoSigns" = some (some (.ref CN)))
    (gCT : PySem.W.nsIn K mainGlobals "NoTerm" = some (some (.ref CT)))
    (aNum : PySem.W.nsIn K mainGlobals "is_number" = some (some (.ref fNum)))
    (lNum : K.lookup fNum = some ⟨ocNum, odNum, .func (PySem.W.fnOf "is_number" "is_number" (defArgs sNum) (defBody sNum) (defScope sNum) .none kVNum dcNum pmNum anNum cdNum ctNum), slNum⟩)
    (cNum : PySem.W.codeIn K cdNum "is_number" = true)
    (kNum_ : PySem.W.keepIn K (.ref fNum) = true)
    (aLst : PySem.W.nsIn K mainGlobals "is_list" = some (some (.ref fLst)))
    (lLst : K.lookup fLst = some ⟨ocLst, odLst, .func (PySem.W.fnOf "is_list" "is_list" (defArgs sList) (defBody sList) (defScope sList) .none kVLst dcLst pmLst anLst cdLst ctLst), slLst⟩)
    (cLst : PySem.W.codeIn K cdLst "is_list" = true)
    (kLst_ : PySem.W.keepIn K (.ref fLst) = true)
    (aSma : PySem.W.nsIn K mainGlobals "is_small" = some (some (.ref fSma)))
    (lSma : K.lookup fSma = some ⟨ocSma, odSma, .func (PySem.W.fnOf "is_small" "is_small" (defArgs sSmall) (defBody sSmall) (defScope sSmall) .none kVSma dcSma pmSma anSma cdSma ctSma), slSma⟩)
    (cSma : PySem.W.codeIn K cdSma "is_small" = true)
    (kSma_ : PySem.W.keepIn K (.ref fSma) = true)
    (aNam : PySem.W.nsIn K mainGlobals "is_name" = some (some (.ref fNam)))
    (lNam : K.lookup fNam = some ⟨ocNam, odNam, .func (PySem.W.fnOf "is_name" "is_name" (defArgs sName) (defBody sName) (defScope sName) .none kVNam dcNam pmNam anNam cdNam ctNam), slNam⟩)
    (cNam : PySem.W.codeIn K cdNam "is_name" = true)
    (kNam_ : PySem.W.keepIn K (.ref fNam) = true)
    (aGap : PySem.W.nsIn K mainGlobals "is_gap" = some (some (.ref fGap)))
    (lGap : K.lookup fGap = some ⟨ocGap, odGap, .func (PySem.W.fnOf "is_gap" "is_gap" (defArgs sGap) (defBody sGap) (defScope sGap) .none kVGap dcGap pmGap anGap cdGap ctGap), slGap⟩)
    (cGap : PySem.W.codeIn K cdGap "is_gap" = true)
    (kGap_ : PySem.W.keepIn K (.ref fGap) = true)
    (aSig : PySem.W.nsIn K mainGlobals "is_sign" = some (some (.ref fSig)))
    (lSig : K.lookup fSig = some ⟨ocSig, odSig, .func (PySem.W.fnOf "is_sign" "is_sign" (defArgs sSign) (defBody sSign) (defScope sSign) .none kVSig dcSig pmSig anSig cdSig ctSig), slSig⟩)
    (cSig : PySem.W.codeIn K cdSig "is_sign" = true)
    (kSig_ : PySem.W.keepIn K (.ref fSig) = true)
    (aTex : PySem.W.nsIn K mainGlobals "text_of" = some (some (.ref fTex)))
    (lTex : K.lookup fTex = some ⟨ocTex, odTex, .func (PySem.W.fnOf "text_of" "text_of" (defArgs sText) (defBody sText) (defScope sText) .none kVTex dcTex pmTex anTex cdTex ctTex), slTex⟩)
    (cTex : PySem.W.codeIn K cdTex "text_of" = true)
    (kTex_ : PySem.W.keepIn K (.ref fTex) = true)
    (aPts : PySem.W.nsIn K mainGlobals "points_of" = some (some (.ref fPts)))
    (lPts : K.lookup fPts = some ⟨ocPts, odPts, .func (PySem.W.fnOf "points_of" "points_of" (defArgs sPts) (defBody sPts) (defScope sPts) .none kVPts dcPts pmPts anPts cdPts ctPts), slPts⟩)
    (cPts : PySem.W.codeIn K cdPts "points_of" = true)
    (kPts_ : PySem.W.keepIn K (.ref fPts) = true)
    (aDee : PySem.W.nsIn K mainGlobals "deep_of" = some (some (.ref fDee)))
    (lDee : K.lookup fDee = some ⟨ocDee, odDee, .func (PySem.W.fnOf "deep_of" "deep_of" (defArgs sDeep) (defBody sDeep) (defScope sDeep) .none kVDee dcDee pmDee anDee cdDee ctDee), slDee⟩)
    (cDee : PySem.W.codeIn K cdDee "deep_of" = true)
    (kDee_ : PySem.W.keepIn K (.ref fDee) = true)
    (aWid : PySem.W.nsIn K mainGlobals "widest_of" = some (some (.ref fWid)))
    (lWid : K.lookup fWid = some ⟨ocWid, odWid, .func (PySem.W.fnOf "widest_of" "widest_of" (defArgs sWide) (defBody sWide) (defScope sWide) .none kVWid dcWid pmWid anWid cdWid ctWid), slWid⟩)
    (cWid : PySem.W.codeIn K cdWid "widest_of" = true)
    (kWid_ : PySem.W.keepIn K (.ref fWid) = true)
    (aBey : PySem.W.nsIn K mainGlobals "is_beyond" = some (some (.ref fBey)))
    (lBey : K.lookup fBey = some ⟨ocBey, odBey, .func (PySem.W.fnOf "is_beyond" "is_beyond" (defArgs sBeyond) (defBody sBeyond) (defScope sBeyond) .none kVBey dcBey pmBey anBey cdBey ctBey), slBey⟩)
    (cBey : PySem.W.codeIn K cdBey "is_beyond" = true)
    (kBey_ : PySem.W.keepIn K (.ref fBey) = true)
    (aHPa : PySem.W.nsIn K mainGlobals "has_parts" = some (some (.ref fHPa)))
    (lHPa : K.lookup fHPa = some ⟨ocHPa, odHPa, .func (PySem.W.fnOf "has_parts" "has_parts" (defArgs sHasParts) (defBody sHasParts) (defScope sHasParts) .none kVHPa dcHPa pmHPa anHPa cdHPa ctHPa), slHPa⟩)
    (cHPa : PySem.W.codeIn K cdHPa "has_parts" = true)
    (kHPa_ : PySem.W.keepIn K (.ref fHPa) = true)
    (aDpt : PySem.W.nsIn K mainGlobals "draft_points" = some (some (.ref fDpt)))
    (lDpt : K.lookup fDpt = some ⟨ocDpt, odDpt, .func (PySem.W.fnOf "draft_points" "draft_points" (defArgs sDp) (defBody sDp) (defScope sDp) .none kVDpt dcDpt pmDpt anDpt cdDpt ctDpt), slDpt⟩)
    (cDpt : PySem.W.codeIn K cdDpt "draft_points" = true)
    (kDpt_ : PySem.W.keepIn K (.ref fDpt) = true)
    (aMad : PySem.W.nsIn K mainGlobals "made" = some (some (.ref fMad)))
    (lMad : K.lookup fMad = some ⟨ocMad, odMad, .func (PySem.W.fnOf "made" "made" (defArgs sMade) (defBody sMade) (defScope sMade) .none kVMad dcMad pmMad anMad cdMad ctMad), slMad⟩)
    (cMad : PySem.W.codeIn K cdMad "made" = true)
    (kMad_ : PySem.W.keepIn K (.ref fMad) = true)
    (aOpe : PySem.W.nsIn K mainGlobals "opened" = some (some (.ref fOpe)))
    (lOpe : K.lookup fOpe = some ⟨ocOpe, odOpe, .func (PySem.W.fnOf "opened" "opened" (defArgs sOpened) (defBody sOpened) (defScope sOpened) .none kVOpe dcOpe pmOpe anOpe cdOpe ctOpe), slOpe⟩)
    (cOpe : PySem.W.codeIn K cdOpe "opened" = true)
    (kOpe_ : PySem.W.keepIn K (.ref fOpe) = true)
    (aAne : PySem.W.nsIn K mainGlobals "laid_anew" = some (some (.ref fAne)))
    (lAne : K.lookup fAne = some ⟨ocAne, odAne, .func (PySem.W.fnOf "laid_anew" "laid_anew" (defArgs sAnew) (defBody sAnew) (defScope sAnew) .none kVAne dcAne pmAne anAne cdAne ctAne), slAne⟩)
    (cAne : PySem.W.codeIn K cdAne "laid_anew" = true)
    (kAne_ : PySem.W.keepIn K (.ref fAne) = true)
    (aOrn : PySem.W.nsIn K mainGlobals "laid_or_none" = some (some (.ref fOrn)))
    (lOrn : K.lookup fOrn = some ⟨ocOrn, odOrn, .func (PySem.W.fnOf "laid_or_none" "laid_or_none" (defArgs sOrNone) (defBody sOrNone) (defScope sOrNone) .none kVOrn dcOrn pmOrn anOrn cdOrn ctOrn), slOrn⟩)
    (cOrn : PySem.W.codeIn K cdOrn "laid_or_none" = true)
    (kOrn_ : PySem.W.keepIn K (.ref fOrn) = true)
    (aDra : PySem.W.nsIn K mainGlobals "is_draft" = some (some (.ref fDra)))
    (lDra : K.lookup fDra = some ⟨ocDra, odDra, .func (PySem.W.fnOf "is_draft" "is_draft" (defArgs sDraft) (defBody sDraft) (defScope sDraft) .none kVDra dcDra pmDra anDra cdDra ctDra), slDra⟩)
    (cDra : PySem.W.codeIn K cdDra "is_draft" = true)
    (kDra_ : PySem.W.keepIn K (.ref fDra) = true)
    (aTer : PySem.W.nsIn K mainGlobals "is_term" = some (some (.ref fTer)))
    (lTer : K.lookup fTer = some ⟨ocTer, odTer, .func (PySem.W.fnOf "is_term" "is_term" (defArgs sTerm) (defBody sTerm) (defScope sTerm) .none kVTer dcTer pmTer anTer cdTer ctTer), slTer⟩)
    (cTer : PySem.W.codeIn K cdTer "is_term" = true)
    (kTer_ : PySem.W.keepIn K (.ref fTer) = true)
    (aPrw : PySem.W.nsIn K mainGlobals "part_rows" = some (some (.ref fPrw)))
    (lPrw : K.lookup fPrw = some ⟨ocPrw, odPrw, .func (PySem.W.fnOf "part_rows" "part_rows" (defArgs sPartRows) (defBody sPartRows) (defScope sPartRows) .none kVPrw dcPrw pmPrw anPrw cdPrw ctPrw), slPrw⟩)
    (cPrw : PySem.W.codeIn K cdPrw "part_rows" = true)
    (kPrw_ : PySem.W.keepIn K (.ref fPrw) = true)
    (aPto : PySem.W.nsIn K mainGlobals "parts_of" = some (some (.ref fPto)))
    (lPto : K.lookup fPto = some ⟨ocPto, odPto, .func (PySem.W.fnOf "parts_of" "parts_of" (defArgs sPartsOf) (defBody sPartsOf) (defScope sPartsOf) .none kVPto dcPto pmPto anPto cdPto ctPto), slPto⟩)
    (cPto : PySem.W.codeIn K cdPto "parts_of" = true)
    (kPto_ : PySem.W.keepIn K (.ref fPto) = true)
    (aWof : PySem.W.nsIn K mainGlobals "words_of" = some (some (.ref fWof)))
    (lWof : K.lookup fWof = some ⟨ocWof, odWof, .func (PySem.W.fnOf "words_of" "words_of" (defArgs sWordsOf) (defBody sWordsOf) (defScope sWordsOf) .none kVWof dcWof pmWof anWof cdWof ctWof), slWof⟩)
    (cWof : PySem.W.codeIn K cdWof "words_of" = true)
    (kWof_ : PySem.W.keepIn K (.ref fWof) = true)
    (aTof : PySem.W.nsIn K mainGlobals "tree_of" = some (some (.ref fTof)))
    (lTof : K.lookup fTof = some ⟨ocTof, odTof, .func (PySem.W.fnOf "tree_of" "tree_of" (defArgs sTreeOf) (defBody sTreeOf) (defScope sTreeOf) .none kVTof dcTof pmTof anTof cdTof ctTof), slTof⟩)
    (cTof : PySem.W.codeIn K cdTof "tree_of" = true)
    (kTof_ : PySem.W.keepIn K (.ref fTof) = true)
    (aDof : PySem.W.nsIn K mainGlobals "draft_of" = some (some (.ref fDof)))
    (lDof : K.lookup fDof = some ⟨ocDof, odDof, .func (PySem.W.fnOf "draft_of" "draft_of" (defArgs sDraftOf) (defBody sDraftOf) (defScope sDraftOf) .none kVDof dcDof pmDof anDof cdDof ctDof), slDof⟩)
    (cDof : PySem.W.codeIn K cdDof "draft_of" = true)
    (kDof_ : PySem.W.keepIn K (.ref fDof) = true)
    (aRea : PySem.W.nsIn K mainGlobals "read_term" = some (some (.ref fRea)))
    (lRea : K.lookup fRea = some ⟨ocRea, odRea, .func (PySem.W.fnOf "read_term" "read_term" (defArgs sReadTerm) (defBody sReadTerm) (defScope sReadTerm) .none kVRea dcRea pmRea anRea cdRea ctRea), slRea⟩)
    (cRea : PySem.W.codeIn K cdRea "read_term" = true)
    (kRea_ : PySem.W.keepIn K (.ref fRea) = true)
    (aLad : PySem.W.nsIn K mainGlobals "laid" = some (some (.ref fLad)))
    (lLad : K.lookup fLad = some ⟨ocLad, odLad, .func (PySem.W.fnOf "laid" "laid" (defArgs sLaid) (defBody sLaid) (defScope sLaid) .none kVLad dcLad pmLad anLad cdLad ctLad), slLad⟩)
    (cLad : PySem.W.codeIn K cdLad "laid" = true)
    (kLad_ : PySem.W.keepIn K (.ref fLad) = true)
    (aPoi : PySem.W.nsIn K mainGlobals "points" = some (some (.ref fPoi)))
    (lPoi : K.lookup fPoi = some ⟨ocPoi, odPoi, .func (PySem.W.fnOf "points" "points" (defArgs sPoints) (defBody sPoints) (defScope sPoints) .none kVPoi dcPoi pmPoi anPoi cdPoi ctPoi), slPoi⟩)
    (cPoi : PySem.W.codeIn K cdPoi "points" = true)
    (kPoi_ : PySem.W.keepIn K (.ref fPoi) = true)
    (aDep : PySem.W.nsIn K mainGlobals "deep" = some (some (.ref fDep)))
    (lDep : K.lookup fDep = some ⟨ocDep, odDep, .func (PySem.W.fnOf "deep" "deep" (defArgs sDeepF) (defBody sDeepF) (defScope sDeepF) .none kVDep dcDep pmDep anDep cdDep ctDep), slDep⟩)
    (cDep : PySem.W.codeIn K cdDep "deep" = true)
    (kDep_ : PySem.W.keepIn K (.ref fDep) = true)
    (aGof : PySem.W.nsIn K mainGlobals "gaps_of" = some (some (.ref fGof)))
    (lGof : K.lookup fGof = some ⟨ocGof, odGof, .func (PySem.W.fnOf "gaps_of" "gaps_of" (defArgs sGapsOf) (defBody sGapsOf) (defScope sGapsOf) .none kVGof dcGof pmGof anGof cdGof ctGof), slGof⟩)
    (cGof : PySem.W.codeIn K cdGof "gaps_of" = true)
    (kGof_ : PySem.W.keepIn K (.ref fGof) = true)
    (aGas : PySem.W.nsIn K mainGlobals "gaps" = some (some (.ref fGas)))
    (lGas : K.lookup fGas = some ⟨ocGas, odGas, .func (PySem.W.fnOf "gaps" "gaps" (defArgs sGaps) (defBody sGaps) (defScope sGaps) .none kVGas dcGas pmGas anGas cdGas ctGas), slGas⟩)
    (cGas : PySem.W.codeIn K cdGas "gaps" = true)
    (kGas_ : PySem.W.keepIn K (.ref fGas) = true)
    (aTtx : PySem.W.nsIn K mainGlobals "term_text" = some (some (.ref fTtx)))
    (lTtx : K.lookup fTtx = some ⟨ocTtx, odTtx, .func (PySem.W.fnOf "term_text" "term_text" (defArgs sTermText) (defBody sTermText) (defScope sTermText) .none kVTtx dcTtx pmTtx anTtx cdTtx ctTtx), slTtx⟩)
    (cTtx : PySem.W.codeIn K cdTtx "term_text" = true)
    (kTtx_ : PySem.W.keepIn K (.ref fTtx) = true)
    (aBeg : PySem.W.nsIn K mainGlobals "_law_begun" = some (some (.ref fBeg)))
    (lBeg : K.lookup fBeg = some ⟨ocBeg, odBeg, .func (PySem.W.fnOf "_law_begun" "_law_begun" (defArgs sBegun) (defBody sBegun) (defScope sBegun) .none kVBeg dcBeg pmBeg anBeg cdBeg ctBeg), slBeg⟩)
    (cBeg : PySem.W.codeIn K cdBeg "_law_begun" = true)
    (kBeg_ : PySem.W.keepIn K (.ref fBeg) = true)
    (aMix : PySem.W.nsIn K mainGlobals "_law_mixed" = some (some (.ref fMix)))
    (lMix : K.lookup fMix = some ⟨ocMix, odMix, .func (PySem.W.fnOf "_law_mixed" "_law_mixed" (defArgs sMixed) (defBody sMixed) (defScope sMixed) .none kVMix dcMix pmMix anMix cdMix ctMix), slMix⟩)
    (cMix : PySem.W.codeIn K cdMix "_law_mixed" = true)
    (kMix_ : PySem.W.keepIn K (.ref fMix) = true)
    (aTak : PySem.W.nsIn K mainGlobals "_law_take" = some (some (.ref fTak)))
    (lTak : K.lookup fTak = some ⟨ocTak, odTak, .func (PySem.W.fnOf "_law_take" "_law_take" (defArgs sTake) (defBody sTake) (defScope sTake) .none kVTak dcTak pmTak anTak cdTak ctTak), slTak⟩)
    (cTak : PySem.W.codeIn K cdTak "_law_take" = true)
    (kTak_ : PySem.W.keepIn K (.ref fTak) = true)
    (aPic : PySem.W.nsIn K mainGlobals "_law_pick" = some (some (.ref fPic)))
    (lPic : K.lookup fPic = some ⟨ocPic, odPic, .func (PySem.W.fnOf "_law_pick" "_law_pick" (defArgs sPick') (defBody sPick') (defScope sPick') .none kVPic dcPic pmPic anPic cdPic ctPic), slPic⟩)
    (cPic : PySem.W.codeIn K cdPic "_law_pick" = true)
    (kPic_ : PySem.W.keepIn K (.ref fPic) = true)
    (aWor : PySem.W.nsIn K mainGlobals "_law_words" = some (some (.ref fWor)))
    (lWor : K.lookup fWor = some ⟨ocWor, odWor, .func (PySem.W.fnOf "_law_words" "_law_words" (defArgs sWords) (defBody sWords) (defScope sWords) .none kVWor dcWor pmWor anWor cdWor ctWor), slWor⟩)
    (cWor : PySem.W.codeIn K cdWor "_law_words" = true)
    (kWor_ : PySem.W.keepIn K (.ref fWor) = true)
    (aSgr : PySem.W.nsIn K mainGlobals "_law_sign_rows" = some (some (.ref fSgr)))
    (lSgr : K.lookup fSgr = some ⟨ocSgr, odSgr, .func (PySem.W.fnOf "_law_sign_rows" "_law_sign_rows" (defArgs sSgR) (defBody sSgR) (defScope sSgR) .none kVSgr dcSgr pmSgr anSgr cdSgr ctSgr), slSgr⟩)
    (cSgr : PySem.W.codeIn K cdSgr "_law_sign_rows" = true)
    (kSgr_ : PySem.W.keepIn K (.ref fSgr) = true)
    (aLKi : PySem.W.nsIn K mainGlobals "_law_kinds" = some (some (.ref fLKi)))
    (lLKi : K.lookup fLKi = some ⟨ocLKi, odLKi, .func (PySem.W.fnOf "_law_kinds" "_law_kinds" (defArgs sLKinds) (defBody sLKinds) (defScope sLKinds) .none kVLKi dcLKi pmLKi anLKi cdLKi ctLKi), slLKi⟩)
    (cLKi : PySem.W.codeIn K cdLKi "_law_kinds" = true)
    (kLKi_ : PySem.W.keepIn K (.ref fLKi) = true)
    (aLTe : PySem.W.nsIn K mainGlobals "_law_text" = some (some (.ref fLTe)))
    (lLTe : K.lookup fLTe = some ⟨ocLTe, odLTe, .func (PySem.W.fnOf "_law_text" "_law_text" (defArgs sLText) (defBody sLText) (defScope sLText) .none kVLTe dcLTe pmLTe anLTe cdLTe ctLTe), slLTe⟩)
    (cLTe : PySem.W.codeIn K cdLTe "_law_text" = true)
    (kLTe_ : PySem.W.keepIn K (.ref fLTe) = true)
    (aLPo : PySem.W.nsIn K mainGlobals "_law_points" = some (some (.ref fLPo)))
    (lLPo : K.lookup fLPo = some ⟨ocLPo, odLPo, .func (PySem.W.fnOf "_law_points" "_law_points" (defArgs sLPts) (defBody sLPts) (defScope sLPts) .none kVLPo dcLPo pmLPo anLPo cdLPo ctLPo), slLPo⟩)
    (cLPo : PySem.W.codeIn K cdLPo "_law_points" = true)
    (kLPo_ : PySem.W.keepIn K (.ref fLPo) = true)
    (aLDe : PySem.W.nsIn K mainGlobals "_law_deep" = some (some (.ref fLDe)))
    (lLDe : K.lookup fLDe = some ⟨ocLDe, odLDe, .func (PySem.W.fnOf "_law_deep" "_law_deep" (defArgs sLDeep) (defBody sLDeep) (defScope sLDeep) .none kVLDe dcLDe pmLDe anLDe cdLDe ctLDe), slLDe⟩)
    (cLDe : PySem.W.codeIn K cdLDe "_law_deep" = true)
    (kLDe_ : PySem.W.keepIn K (.ref fLDe) = true)
    (aLea : PySem.W.nsIn K mainGlobals "_law_leaf" = some (some (.ref fLea)))
    (lLea : K.lookup fLea = some ⟨ocLea, odLea, .func (PySem.W.fnOf "_law_leaf" "_law_leaf" (defArgs sLeaf) (defBody sLeaf) (defScope sLeaf) .none kVLea dcLea pmLea anLea cdLea ctLea), slLea⟩)
    (cLea : PySem.W.codeIn K cdLea "_law_leaf" = true)
    (kLea_ : PySem.W.keepIn K (.ref fLea) = true)
    (aTrm : PySem.W.nsIn K mainGlobals "_law_term" = some (some (.ref fTrm)))
    (lTrm : K.lookup fTrm = some ⟨ocTrm, odTrm, .func (PySem.W.fnOf "_law_term" "_law_term" (defArgs sLTerm) (defBody sLTerm) (defScope sLTerm) .none kVTrm dcTrm pmTrm anTrm cdTrm ctTrm), slTrm⟩)
    (cTrm : PySem.W.codeIn K cdTrm "_law_term" = true)
    (kTrm_ : PySem.W.keepIn K (.ref fTrm) = true)
    (aLoo : PySem.W.nsIn K mainGlobals "_law_loose" = some (some (.ref fLoo)))
    (lLoo : K.lookup fLoo = some ⟨ocLoo, odLoo, .func (PySem.W.fnOf "_law_loose" "_law_loose" (defArgs sLoose) (defBody sLoose) (defScope sLoose) .none kVLoo dcLoo pmLoo anLoo cdLoo ctLoo), slLoo⟩)
    (cLoo : PySem.W.codeIn K cdLoo "_law_loose" = true)
    (kLoo_ : PySem.W.keepIn K (.ref fLoo) = true)
    (aDft : PySem.W.nsIn K mainGlobals "_law_draft" = some (some (.ref fDft)))
    (lDft : K.lookup fDft = some ⟨ocDft, odDft, .func (PySem.W.fnOf "_law_draft" "_law_draft" (defArgs sDraftT) (defBody sDraftT) (defScope sDraftT) .none kVDft dcDft pmDft anDft cdDft ctDft), slDft⟩)
    (cDft : PySem.W.codeIn K cdDft "_law_draft" = true)
    (kDft_ : PySem.W.keepIn K (.ref fDft) = true)
    (aKin : PySem.W.nsIn K mainGlobals "_law_all_kinds" = some (some (.ref fKin)))
    (lKin : K.lookup fKin = some ⟨ocKin, odKin, .func (PySem.W.fnOf "_law_all_kinds" "_law_all_kinds" (defArgs sKinds7) (defBody sKinds7) (defScope sKinds7) .none kVKin dcKin pmKin anKin cdKin ctKin), slKin⟩)
    (cKin : PySem.W.codeIn K cdKin "_law_all_kinds" = true)
    (kKin_ : PySem.W.keepIn K (.ref fKin) = true)
    (aOfP : PySem.W.nsIn K mainGlobals "_law_of_points" = some (some (.ref fOfP)))
    (lOfP : K.lookup fOfP = some ⟨ocOfP, odOfP, .func (PySem.W.fnOf "_law_of_points" "_law_of_points" (defArgs sOfP) (defBody sOfP) (defScope sOfP) .none kVOfP dcOfP pmOfP anOfP cdOfP ctOfP), slOfP⟩)
    (cOfP : PySem.W.codeIn K cdOfP "_law_of_points" = true)
    (kOfP_ : PySem.W.keepIn K (.ref fOfP) = true)
    (aNea : PySem.W.nsIn K mainGlobals "_law_near_bounds" = some (some (.ref fNea)))
    (lNea : K.lookup fNea = some ⟨ocNea, odNea, .func (PySem.W.fnOf "_law_near_bounds" "_law_near_bounds" (defArgs sNear) (defBody sNear) (defScope sNear) .none kVNea dcNea pmNea anNea cdNea ctNea), slNea⟩)
    (cNea : PySem.W.codeIn K cdNea "_law_near_bounds" = true)
    (kNea_ : PySem.W.keepIn K (.ref fNea) = true)
    (aLGs : PySem.W.nsIn K mainGlobals "_law_gaps" = some (some (.ref fLGs)))
    (lLGs : K.lookup fLGs = some ⟨ocLGs, odLGs, .func (PySem.W.fnOf "_law_gaps" "_law_gaps" (defArgs sLGaps) (defBody sLGaps) (defScope sLGaps) .none kVLGs dcLGs pmLGs anLGs cdLGs ctLGs), slLGs⟩)
    (cLGs : PySem.W.codeIn K cdLGs "_law_gaps" = true)
    (kLGs_ : PySem.W.keepIn K (.ref fLGs) = true)
    (aAhd : PySem.W.nsIn K mainGlobals "_law_ahead" = some (some (.ref fAhd)))
    (lAhd : K.lookup fAhd = some ⟨ocAhd, odAhd, .func (PySem.W.fnOf "_law_ahead" "_law_ahead" (defArgs sAhd) (defBody sAhd) (defScope sAhd) .none kVAhd dcAhd pmAhd anAhd cdAhd ctAhd), slAhd⟩)
    (cAhd : PySem.W.codeIn K cdAhd "_law_ahead" = true)
    (kAhd_ : PySem.W.keepIn K (.ref fAhd) = true)
    (aCld : PySem.W.nsIn K mainGlobals "_law_called" = some (some (.ref fCld)))
    (lCld : K.lookup fCld = some ⟨ocCld, odCld, .func (PySem.W.fnOf "_law_called" "_law_called" (defArgs sCld) (defBody sCld) (defScope sCld) .none kVCld dcCld pmCld anCld cdCld ctCld), slCld⟩)
    (cCld : PySem.W.codeIn K cdCld "_law_called" = true)
    (kCld_ : PySem.W.keepIn K (.ref fCld) = true)
    (aCgs : PySem.W.nsIn K mainGlobals "_law_callings" = some (some (.ref fCgs)))
    (lCgs : K.lookup fCgs = some ⟨ocCgs, odCgs, .func (PySem.W.fnOf "_law_callings" "_law_callings" (defArgs sCgs) (defBody sCgs) (defScope sCgs) .none kVCgs dcCgs pmCgs anCgs cdCgs ctCgs), slCgs⟩)
    (cCgs : PySem.W.codeIn K cdCgs "_law_callings" = true)
    (kCgs_ : PySem.W.keepIn K (.ref fCgs) = true)
    (aWri : PySem.W.nsIn K mainGlobals "_law_within_right" = some (some (.ref fWri)))
    (lWri : K.lookup fWri = some ⟨ocWri, odWri, .func (PySem.W.fnOf "_law_within_right" "_law_within_right" (defArgs sWr) (defBody sWr) (defScope sWr) .none kVWri dcWri pmWri anWri (.ref kWri) ctWri), slWri⟩)
    (cWri : PySem.W.codeIn K (.ref kWri) "_law_within_right" = true)
    (kWri_ : PySem.W.keepIn K (.ref fWri) = true)
    (aSbn : PySem.W.nsIn K mainGlobals "_law_same_by_names" = some (some (.ref fSbn)))
    (lSbn : K.lookup fSbn = some ⟨ocSbn, odSbn, .func (PySem.W.fnOf "_law_same_by_names" "_law_same_by_names" (defArgs sSbn) (defBody sSbn) (defScope sSbn) .none kVSbn dcSbn pmSbn anSbn cdSbn ctSbn), slSbn⟩)
    (cSbn : PySem.W.codeIn K cdSbn "_law_same_by_names" = true)
    (kSbn_ : PySem.W.keepIn K (.ref fSbn) = true)
    (aLai : PySem.W.nsIn K mainGlobals "_law_laid" = some (some (.ref fLai)))
    (lLai : K.lookup fLai = some ⟨ocLai, odLai, .func (PySem.W.fnOf "_law_laid" "_law_laid" (defArgs sLLaid) (defBody sLLaid) (defScope sLLaid) .none kVLai dcLai pmLai anLai (.ref kLai) ctLai), slLai⟩)
    (cLai : PySem.W.codeIn K (.ref kLai) "_law_laid" = true)
    (kLai_ : PySem.W.keepIn K (.ref fLai) = true)
    (aLaw : PySem.W.nsIn K mainGlobals "law" = some (some (.ref fLaw)))
    (lLaw : K.lookup fLaw = some ⟨ocLaw, odLaw, .func (PySem.W.fnOf "law" "law" (defArgs sLaw) (defBody sLaw) (defScope sLaw) .none kVLaw dcLaw pmLaw anLaw (.ref kLaw) ctLaw), slLaw⟩)
    (cLaw : PySem.W.codeIn K (.ref kLaw) "law" = true)
    (kLaw_ : PySem.W.keepIn K (.ref fLaw) = true)
    (amIn : PySem.W.findIn K (.ref C) "__init__" = some (some (.ref fmIn)))
    (imIn : PySem.W.isFn K (.ref fmIn) = true)
    (lmIn : K.lookup fmIn = some ⟨ocmIn, odmIn, .func (PySem.W.fnOf "__init__" "Signs.__init__" (defArgs sInit) (defBody sInit) (defScope sInit) .none kVmIn dcmIn pmmIn anmIn cdmIn ctmIn), slmIn⟩)
    (cmIn : PySem.W.codeIn K cdmIn "Signs.__init__" = true)
    (kmIn_ : PySem.W.keepIn K (.ref fmIn) = true)
    (amHa : PySem.W.findIn K (.ref C) "has" = some (some (.ref fmHa)))
    (imHa : PySem.W.isFn K (.ref fmHa) = true)
    (lmHa : K.lookup fmHa = some ⟨ocmHa, odmHa, .func (PySem.W.fnOf "has" "Signs.has" (defArgs sHas) (defBody sHas) (defScope sHas) .none kVmHa dcmHa pmmHa anmHa cdmHa ctmHa), slmHa⟩)
    (cmHa : PySem.W.codeIn K cdmHa "Signs.has" = true)
    (kmHa_ : PySem.W.keepIn K (.ref fmHa) = true)
    (amKi : PySem.W.findIn K (.ref C) "kind" = some (some (.ref fmKi)))
    (imKi : PySem.W.isFn K (.ref fmKi) = true)
    (lmKi : K.lookup fmKi = some ⟨ocmKi, odmKi, .func (PySem.W.fnOf "kind" "Signs.kind" (defArgs sKind) (defBody sKind) (defScope sKind) .none kVmKi dcmKi pmmKi anmKi cdmKi ctmKi), slmKi⟩)
    (cmKi : PySem.W.codeIn K cdmKi "Signs.kind" = true)
    (kmKi_ : PySem.W.keepIn K (.ref fmKi) = true)
    (amMa : PySem.W.findIn K (.ref C) "many" = some (some (.ref fmMa)))
    (imMa : PySem.W.isFn K (.ref fmMa) = true)
    (lmMa : K.lookup fmMa = some ⟨ocmMa, odmMa, .func (PySem.W.fnOf "many" "Signs.many" (defArgs sMany) (defBody sMany) (defScope sMany) .none kVmMa dcmMa pmmMa anmMa cdmMa ctmMa), slmMa⟩)
    (cmMa : PySem.W.codeIn K cdmMa "Signs.many" = true)
    (kmMa_ : PySem.W.keepIn K (.ref fmMa) = true)
    (xSM : PySem.W.nsIn K mainGlobals "SMALL" = some (some (.str abc tSM)))
    (xNL : PySem.W.nsIn K mainGlobals "NAME_LETTERS" = some (some (.int 8 tNL)))
    (xMS : PySem.W.nsIn K mainGlobals "MOST_SIGNS" = some (some (.int 24 tMS)))
    (xMP : PySem.W.nsIn K mainGlobals "MOST_PLAIN" = some (some (.int 4 tMP)))
    (xGR : PySem.W.nsIn K mainGlobals "GREAT" = some (some (.str bigs tGR)))
    (xGL : PySem.W.nsIn K mainGlobals "GAP_LETTERS" = some (some (.int 4 tGL)))
    (xPO : PySem.W.nsIn K mainGlobals "MOST_POINTS" = some (some (.int 80 tPO)))
    (xDE : PySem.W.nsIn K mainGlobals "MOST_DEEP" = some (some (.int 12 tDE)))
    (xPA : PySem.W.nsIn K mainGlobals "MOST_PARTS" = some (some (.int 8 tPA)))
    (z_isinstance : PySem.W.nsIn K mainGlobals "isinstance" = some none)
    (z_int : PySem.W.nsIn K mainGlobals "int" = some none)
    (z_bool : PySem.W.nsIn K mainGlobals "bool" = some none)
    (z_str : PySem.W.nsIn K mainGlobals "str" = some none)
    (z_list : PySem.W.nsIn K mainGlobals "list" = some none)
    (z_tuple : PySem.W.nsIn K mainGlobals "tuple" = some none)
    (z_len : PySem.W.nsIn K mainGlobals "len" = some none)
    (z_all : PySem.W.nsIn K mainGlobals "all" = some none)
    (z_range : PySem.W.nsIn K mainGlobals "range" = some none)
    (z_repr : PySem.W.nsIn K mainGlobals "repr" = some none)
    (z_dict : PySem.W.nsIn K mainGlobals "dict" = some none)
    (z_sum : PySem.W.nsIn K mainGlobals "sum" = some none)
    (z_max : PySem.W.nsIn K mainGlobals "max" = some none)
    (z_min : PySem.W.nsIn K mainGlobals "min" = some none)
    (z_sorted : PySem.W.nsIn K mainGlobals "sorted" = some none)
    (z_set : PySem.W.nsIn K mainGlobals "set" = some none)
    (z_enumerate : PySem.W.nsIn K mainGlobals "enumerate" = some none)
    (pg : PySem.W.plainGet K C Str.empty = true)
    (hd : PySem.W.hasDictIn K C = true)
    (po : PySem.W.plainOver K C = true)
    (sa : PySem.W.findIn K (.ref C) "__setattr__" = some (some (.builtin "object.__setattr__")))
    (nR : PySem.W.findIn K (.ref C) "_rows" = some none)
    (nT : PySem.W.findIn K (.ref C) "_table" = some none)
    (mkC : PySem.W.makesIn K C = true)
    (kpC : PySem.W.keepIn K (.ref C) = true)
    (xN : PySem.W.excIn K CN [.type "ValueError", .type "Exception", .type "BaseException", .type "object"] "ValueError.__new__" = true)
    (kN : PySem.W.keepIn K (.ref CN) = true)
    (sN : PySem.W.subIn K (.ref CN) (.type "BaseException") = some true)
    (tN : PySem.W.typeIn K (.ref CN) = some (.type "type"))
    (xT : PySem.W.excIn K CT [.type "ValueError", .type "Exception", .type "BaseException", .type "object"] "ValueError.__new__" = true)
    (kT : PySem.W.keepIn K (.ref CT) = true)
    (sT : PySem.W.subIn K (.ref CT) (.type "BaseException") = some true)
    (tT : PySem.W.typeIn K (.ref CT) = some (.type "type"))
    (gM : PySem.W.nsIn K mainGlobals "MARKS" = some (some (.ref aM)))
    (lM : K.lookup aM = some ⟨.type "tuple", odM, .seq #[.str oP tM1, .str cP tM2, .str cm tM3] nM, slM⟩)
    (mR : PR ∈ ts)
    (oR : K.lookup PR = none)
    (hdR : PySem.W.codeHdIn K kWri PR = true)
    (nRL : (PR == PL) = false)
    (mL : PL ∈ ts)
    (oL : K.lookup PL = none)
    (hdL : PySem.W.codeHdIn K kLai PL = true)
    : LawG l w K 73 63 "_law_script" mg fa h := by
  have e := hfa.symm.trans (PySem.W.mg_of X G aLaw)
  cases e
  have FNum := fun_mk (st := sNum) lNum cNum kNum_
  have bNum := FNum.binds (ps := ["thing"]) fun _ _ _ _ _ _ us hl => match us, hl with | [_], _ => rfl
  have gNum_ := PySem.W.mg_of X G aNum
  have FLst := fun_mk (st := sList) lLst cLst kLst_
  have bLst := FLst.binds (ps := ["thing"]) fun _ _ _ _ _ _ us hl => match us, hl with | [_], _ => rfl
  have gLst_ := PySem.W.mg_of X G aLst
  have FSma := fun_mk (st := sSmall) lSma cSma kSma_
  have bSma := FSma.binds (ps := ["text"]) fun _ _ _ _ _ _ us hl => match us, hl with | [_], _ => rfl
  have gSma_ := PySem.W.mg_of X G aSma
  have FNam := fun_mk (st := sName) lNam cNam kNam_
  have bNam := FNam.binds (ps := ["thing"]) fun _ _ _ _ _ _ us hl => match us, hl with | [_], _ => rfl
  have gNam_ := PySem.W.mg_of X G aNam
  have FGap := fun_mk (st := sGap) lGap cGap kGap_
  have bGap := FGap.binds (ps := ["thing"]) fun _ _ _ _ _ _ us hl => match us, hl with | [_], _ => rfl
  have gGap_ := PySem.W.mg_of X G aGap
  have FSig := fun_mk (st := sSign) lSig cSig kSig_
  have bSig := FSig.binds (ps := ["thing"]) fun _ _ _ _ _ _ us hl => match us, hl with | [_], _ => rfl
  have gSig_ := PySem.W.mg_of X G aSig
  have FTex := fun_mk (st := sText) lTex cTex kTex_
  have bTex := FTex.binds (ps := ["term"]) fun _ _ _ _ _ _ us hl => match us, hl with | [_], _ => rfl
  have gTex_ := PySem.W.mg_of X G aTex
  have FPts := fun_mk (st := sPts) lPts cPts kPts_
  have bPts := FPts.binds (ps := ["term"]) fun _ _ _ _ _ _ us hl => match us, hl with | [_], _ => rfl
  have gPts_ := PySem.W.mg_of X G aPts
  have FDee := fun_mk (st := sDeep) lDee cDee kDee_
  have bDee := FDee.binds (ps := ["term"]) fun _ _ _ _ _ _ us hl => match us, hl with | [_], _ => rfl
  have gDee_ := PySem.W.mg_of X G aDee
  have FWid := fun_mk (st := sWide) lWid cWid kWid_
  have bWid := FWid.binds (ps := ["term"]) fun _ _ _ _ _ _ us hl => match us, hl with | [_], _ => rfl
  have gWid_ := PySem.W.mg_of X G aWid
  have FBey := fun_mk (st := sBeyond) lBey cBey kBey_
  have bBey := FBey.binds (ps := ["term"]) fun _ _ _ _ _ _ us hl => match us, hl with | [_], _ => rfl
  have gBey_ := PySem.W.mg_of X G aBey
  have FHPa := fun_mk (st := sHasParts) lHPa cHPa kHPa_
  have bHPa := FHPa.binds (ps := ["signs", "name", "count"]) fun _ _ _ _ _ _ us hl => match us, hl with | [_, _, _], _ => rfl
  have gHPa_ := PySem.W.mg_of X G aHPa
  have FDpt := fun_mk (st := sDp) lDpt cDpt kDpt_
  have bDpt := FDpt.binds (ps := ["signs", "thing", "levels", "room"]) fun _ _ _ _ _ _ us hl => match us, hl with | [_, _, _, _], _ => rfl
  have gDpt_ := PySem.W.mg_of X G aDpt
  have FMad := fun_mk (st := sMade) lMad cMad kMad_
  have bMad := FMad.binds (ps := ["signs", "name", "parts"]) fun _ _ _ _ _ _ us hl => match us, hl with | [_, _, _], _ => rfl
  have gMad_ := PySem.W.mg_of X G aMad
  have FOpe := fun_mk (st := sOpened) lOpe cOpe kOpe_
  have bOpe := FOpe.binds (ps := ["name", "parts"]) fun _ _ _ _ _ _ us hl => match us, hl with | [_, _], _ => rfl
  have gOpe_ := PySem.W.mg_of X G aOpe
  have FAne := fun_mk (st := sAnew) lAne cAne kAne_
  have bAne := FAne.binds (ps := ["signs", "draft"]) fun _ _ _ _ _ _ us hl => match us, hl with | [_, _], _ => rfl
  have gAne_ := PySem.W.mg_of X G aAne
  have FOrn := fun_mk (st := sOrNone) lOrn cOrn kOrn_
  have bOrn := FOrn.binds (ps := ["signs", "thing"]) fun _ _ _ _ _ _ us hl => match us, hl with | [_, _], _ => rfl
  have gOrn_ := PySem.W.mg_of X G aOrn
  have FDra := fun_mk (st := sDraft) lDra cDra kDra_
  have bDra := FDra.binds (ps := ["signs", "thing"]) fun _ _ _ _ _ _ us hl => match us, hl with | [_, _], _ => rfl
  have gDra_ := PySem.W.mg_of X G aDra
  have FTer := fun_mk (st := sTerm) lTer cTer kTer_
  have bTer := FTer.binds (ps := ["signs", "thing"]) fun _ _ _ _ _ _ us hl => match us, hl with | [_, _], _ => rfl
  have gTer_ := PySem.W.mg_of X G aTer
  have FPrw := fun_mk (st := sPartRows) lPrw cPrw kPrw_
  have bPrw := FPrw.binds (ps := ["signs", "term"]) fun _ _ _ _ _ _ us hl => match us, hl with | [_, _], _ => rfl
  have gPrw_ := PySem.W.mg_of X G aPrw
  have FPto := fun_mk (st := sPartsOf) lPto cPto kPto_
  have bPto := FPto.binds (ps := ["term"]) fun _ _ _ _ _ _ us hl => match us, hl with | [_], _ => rfl
  have gPto_ := PySem.W.mg_of X G aPto
  have FWof := fun_mk (st := sWordsOf) lWof cWof kWof_
  have bWof := FWof.binds (ps := ["text"]) fun _ _ _ _ _ _ us hl => match us, hl with | [_], _ => rfl
  have gWof_ := PySem.W.mg_of X G aWof
  have FTof := fun_mk (st := sTreeOf) lTof cTof kTof_
  have bTof := FTof.binds (ps := ["words"]) fun _ _ _ _ _ _ us hl => match us, hl with | [_], _ => rfl
  have gTof_ := PySem.W.mg_of X G aTof
  have FDof := fun_mk (st := sDraftOf) lDof cDof kDof_
  have bDof := FDof.binds (ps := ["words"]) fun _ _ _ _ _ _ us hl => match us, hl with | [_], _ => rfl
  have gDof_ := PySem.W.mg_of X G aDof
  have FRea := fun_mk (st := sReadTerm) lRea cRea kRea_
  have bRea := FRea.binds (ps := ["signs", "text"]) fun _ _ _ _ _ _ us hl => match us, hl with | [_, _], _ => rfl
  have gRea_ := PySem.W.mg_of X G aRea
  have FLad := fun_mk (st := sLaid) lLad cLad kLad_
  have bLad := FLad.binds (ps := ["signs", "draft"]) fun _ _ _ _ _ _ us hl => match us, hl with | [_, _], _ => rfl
  have gLad_ := PySem.W.mg_of X G aLad
  have FPoi := fun_mk (st := sPoints) lPoi cPoi kPoi_
  have bPoi := FPoi.binds (ps := ["signs", "term"]) fun _ _ _ _ _ _ us hl => match us, hl with | [_, _], _ => rfl
  have gPoi_ := PySem.W.mg_of X G aPoi
  have FDep := fun_mk (st := sDeepF) lDep cDep kDep_
  have bDep := FDep.binds (ps := ["signs", "term"]) fun _ _ _ _ _ _ us hl => match us, hl with | [_, _], _ => rfl
  have gDep_ := PySem.W.mg_of X G aDep
  have FGof := fun_mk (st := sGapsOf) lGof cGof kGof_
  have bGof := FGof.binds (ps := ["term"]) fun _ _ _ _ _ _ us hl => match us, hl with | [_], _ => rfl
  have gGof_ := PySem.W.mg_of X G aGof
  have FGas := fun_mk (st := sGaps) lGas cGas kGas_
  have bGas := FGas.binds (ps := ["signs", "term"]) fun _ _ _ _ _ _ us hl => match us, hl with | [_, _], _ => rfl
  have gGas_ := PySem.W.mg_of X G aGas
  have FTtx := fun_mk (st := sTermText) lTtx cTtx kTtx_
  have bTtx := FTtx.binds (ps := ["signs", "term"]) fun _ _ _ _ _ _ us hl => match us, hl with | [_, _], _ => rfl
  have gTtx_ := PySem.W.mg_of X G aTtx
  have FBeg := fun_mk (st := sBegun) lBeg cBeg kBeg_
  have bBeg := FBeg.binds (ps := ["_law_script"]) fun _ _ _ _ _ _ us hl => match us, hl with | [_], _ => rfl
  have gBeg_ := PySem.W.mg_of X G aBeg
  have FMix := fun_mk (st := sMixed) lMix cMix kMix_
  have bMix := FMix.binds (ps := ["_law_state"]) fun _ _ _ _ _ _ us hl => match us, hl with | [_], _ => rfl
  have gMix_ := PySem.W.mg_of X G aMix
  have FTak := fun_mk (st := sTake) lTak cTak kTak_
  have bTak := FTak.binds (ps := ["_law_state", "_law_size"]) fun _ _ _ _ _ _ us hl => match us, hl with | [_, _], _ => rfl
  have gTak_ := PySem.W.mg_of X G aTak
  have FPic := fun_mk (st := sPick') lPic cPic kPic_
  have bPic := FPic.binds (ps := ["_law_state", "_law_picks"]) fun _ _ _ _ _ _ us hl => match us, hl with | [_, _], _ => rfl
  have gPic_ := PySem.W.mg_of X G aPic
  have FWor := fun_mk (st := sWords) lWor cWor kWor_
  have bWor := FWor.binds (ps := ["_law_state", "_law_size"]) fun _ _ _ _ _ _ us hl => match us, hl with | [_, _], _ => rfl
  have gWor_ := PySem.W.mg_of X G aWor
  have FSgr := fun_mk (st := sSgR) lSgr cSgr kSgr_
  have bSgr := FSgr.binds (ps := ["_law_state"]) fun _ _ _ _ _ _ us hl => match us, hl with | [_], _ => rfl
  have gSgr_ := PySem.W.mg_of X G aSgr
  have FLKi := fun_mk (st := sLKinds) lLKi cLKi kLKi_
  have bLKi := FLKi.binds (ps := ["_law_lines"]) fun _ _ _ _ _ _ us hl => match us, hl with | [_], _ => rfl
  have gLKi_ := PySem.W.mg_of X G aLKi
  have FLTe := fun_mk (st := sLText) lLTe cLTe kLTe_
  have bLTe := FLTe.binds (ps := ["_law_tree"]) fun _ _ _ _ _ _ us hl => match us, hl with | [_], _ => rfl
  have gLTe_ := PySem.W.mg_of X G aLTe
  have FLPo := fun_mk (st := sLPts) lLPo cLPo kLPo_
  have bLPo := FLPo.binds (ps := ["_law_tree"]) fun _ _ _ _ _ _ us hl => match us, hl with | [_], _ => rfl
  have gLPo_ := PySem.W.mg_of X G aLPo
  have FLDe := fun_mk (st := sLDeep) lLDe cLDe kLDe_
  have bLDe := FLDe.binds (ps := ["_law_tree"]) fun _ _ _ _ _ _ us hl => match us, hl with | [_], _ => rfl
  have gLDe_ := PySem.W.mg_of X G aLDe
  have FLea := fun_mk (st := sLeaf) lLea cLea kLea_
  have bLea := FLea.binds (ps := ["_law_state", "_law_lines", "_law_blanks"]) fun _ _ _ _ _ _ us hl => match us, hl with | [_, _, _], _ => rfl
  have gLea_ := PySem.W.mg_of X G aLea
  have FTrm := fun_mk (st := sLTerm) lTrm cTrm kTrm_
  have bTrm := FTrm.binds (ps := ["_law_state", "_law_lines", "_law_blanks", "_law_room", "_law_height"]) fun _ _ _ _ _ _ us hl => match us, hl with | [_, _, _, _, _], _ => rfl
  have gTrm_ := PySem.W.mg_of X G aTrm
  have FLoo := fun_mk (st := sLoose) lLoo cLoo kLoo_
  have bLoo := FLoo.binds (ps := ["_law_state", "_law_kinds_here", "_law_tree"]) fun _ _ _ _ _ _ us hl => match us, hl with | [_, _, _], _ => rfl
  have gLoo_ := PySem.W.mg_of X G aLoo
  have FDft := fun_mk (st := sDraftT) lDft cDft kDft_
  have bDft := FDft.binds (ps := ["_law_state", "_law_kinds_here", "_law_tree"]) fun _ _ _ _ _ _ us hl => match us, hl with | [_, _, _], _ => rfl
  have gDft_ := PySem.W.mg_of X G aDft
  have FKin := fun_mk (st := sKinds7) lKin cKin kKin_
  have bKin := FKin.binds (ps := ["_law_state"]) fun _ _ _ _ _ _ us hl => match us, hl with | [_], _ => rfl
  have gKin_ := PySem.W.mg_of X G aKin
  have FOfP := fun_mk (st := sOfP) lOfP cOfP kOfP_
  have bOfP := FOfP.binds (ps := ["_law_words_here", "_law_many"]) fun _ _ _ _ _ _ us hl => match us, hl with | [_, _], _ => rfl
  have gOfP_ := PySem.W.mg_of X G aOfP
  have FNea := fun_mk (st := sNear) lNea cNea kNea_
  have bNea := FNea.binds (ps := ["_law_state", "_law_words_here"]) fun _ _ _ _ _ _ us hl => match us, hl with | [_, _], _ => rfl
  have gNea_ := PySem.W.mg_of X G aNea
  have FLGs := fun_mk (st := sLGaps) lLGs cLGs kLGs_
  have bLGs := FLGs.binds (ps := ["_law_tree"]) fun _ _ _ _ _ _ us hl => match us, hl with | [_], _ => rfl
  have gLGs_ := PySem.W.mg_of X G aLGs
  have FAhd := fun_mk (st := sAhd) lAhd cAhd kAhd_
  have bAhd := FAhd.binds (ps := ["_law_state", "_law_stock", "_law_loose_here"]) fun _ _ _ _ _ _ us hl => match us, hl with | [_, _, _], _ => rfl
  have gAhd_ := PySem.W.mg_of X G aAhd
  have FCld := fun_mk (st := sCld) lCld cCld kCld_
  have bCld := FCld.binds (ps := ["_law_words_here", "_law_loose_here"]) fun _ _ _ _ _ _ us hl => match us, hl with | [_, _], _ => rfl
  have gCld_ := PySem.W.mg_of X G aCld
  have FCgs := fun_mk (st := sCgs) lCgs cCgs kCgs_
  have bCgs := FCgs.binds (ps := ["_law_state", "_law_lines", "_law_loose_here"]) fun _ _ _ _ _ _ us hl => match us, hl with | [_, _, _], _ => rfl
  have gCgs_ := PySem.W.mg_of X G aCgs
  have FWri : FunC K "_law_within_right" sWr fWri _ kWri := ⟨⟨ocWri, odWri, kVWri, dcWri, pmWri, anWri, ctWri, slWri, rfl, lWri, cWri⟩, kWri_⟩
  have FWri' := fun_mk (st := sWr) lWri cWri kWri_
  have bWri := FWri'.binds (ps := ["_law_state", "_law_stock", "_law_lines", "_law_tree"]) fun _ _ _ _ _ _ us hl => match us, hl with | [_, _, _, _], _ => rfl
  have gWri_ := PySem.W.mg_of X G aWri
  have FSbn := fun_mk (st := sSbn) lSbn cSbn kSbn_
  have bSbn := FSbn.binds (ps := ["_law_state", "_law_stock", "_law_lines", "_law_loose_here", "_law_tree"]) fun _ _ _ _ _ _ us hl => match us, hl with | [_, _, _, _, _], _ => rfl
  have gSbn_ := PySem.W.mg_of X G aSbn
  have FLai : FunC K "_law_laid" sLLaid fLai _ kLai := ⟨⟨ocLai, odLai, kVLai, dcLai, pmLai, anLai, ctLai, slLai, rfl, lLai, cLai⟩, kLai_⟩
  have FLai' := fun_mk (st := sLLaid) lLai cLai kLai_
  have bLai := FLai'.binds (ps := ["_law_kinds_here", "_law_tree"]) fun _ _ _ _ _ _ us hl => match us, hl with | [_, _], _ => rfl
  have gLai_ := PySem.W.mg_of X G aLai
  have FLaw : FunC K "law" sLaw fa _ kLaw := ⟨⟨ocLaw, odLaw, kVLaw, dcLaw, pmLaw, anLaw, ctLaw, slLaw, rfl, lLaw, cLaw⟩, kLaw_⟩
  have FLaw' := fun_mk (st := sLaw) lLaw cLaw kLaw_
  have bLaw := FLaw'.binds (ps := ["_law_script"]) fun _ _ _ _ _ _ us hl => match us, hl with | [_], _ => rfl
  have gLaw_ := PySem.W.mg_of X G aLaw
  have FmIn := fun_mk (st := sInit) lmIn cmIn kmIn_
  have bmIn := FmIn.binds (ps := ["self", "rows"]) fun _ _ _ _ _ _ us hl => match us, hl with | [_, _], _ => rfl
  have FmHa := fun_mk (st := sHas) lmHa cmHa kmHa_
  have bmHa := FmHa.binds (ps := ["self", "name"]) fun _ _ _ _ _ _ us hl => match us, hl with | [_, _], _ => rfl
  have FmKi := fun_mk (st := sKind) lmKi cmKi kmKi_
  have bmKi := FmKi.binds (ps := ["self", "name"]) fun _ _ _ _ _ _ us hl => match us, hl with | [_, _], _ => rfl
  have FmMa := fun_mk (st := sMany) lmMa cmMa kmMa_
  have bmMa := FmMa.binds (ps := ["self", "name"]) fun _ _ _ _ _ _ us hl => match us, hl with | [_, _], _ => rfl
  have hC := PySem.W.mg_of X G gC
  have hCN := PySem.W.mg_of X G gCN
  have hCT := PySem.W.mg_of X G gCT
  have w_isinstance := PySem.W.mg_none_of X G z_isinstance
  have w_int := PySem.W.mg_none_of X G z_int
  have w_bool := PySem.W.mg_none_of X G z_bool
  have w_str := PySem.W.mg_none_of X G z_str
  have w_list := PySem.W.mg_none_of X G z_list
  have w_tuple := PySem.W.mg_none_of X G z_tuple
  have w_len := PySem.W.mg_none_of X G z_len
  have w_all := PySem.W.mg_none_of X G z_all
  have w_range := PySem.W.mg_none_of X G z_range
  have w_repr := PySem.W.mg_none_of X G z_repr
  have w_dict := PySem.W.mg_none_of X G z_dict
  have w_sum := PySem.W.mg_none_of X G z_sum
  have w_max := PySem.W.mg_none_of X G z_max
  have w_min := PySem.W.mg_none_of X G z_min
  have w_sorted := PySem.W.mg_none_of X G z_sorted
  have w_set := PySem.W.mg_none_of X G z_set
  have w_enumerate := PySem.W.mg_none_of X G z_enumerate
  have B : Cs mg := ⟨⟨_, PySem.W.mg_of X G xSM⟩, ⟨_, PySem.W.mg_of X G xNL⟩, ⟨_, PySem.W.mg_of X G xMS⟩, ⟨_, PySem.W.mg_of X G xMP⟩, w_isinstance, w_int, w_bool, w_str, w_list, w_tuple, w_len, w_all, w_range, w_repr, w_dict⟩
  have T : Ct mg := ⟨B, ⟨_, PySem.W.mg_of X G xGR⟩, ⟨_, PySem.W.mg_of X G xGL⟩, ⟨_, PySem.W.mg_of X G xPO⟩, ⟨_, PySem.W.mg_of X G xDE⟩, ⟨_, PySem.W.mg_of X G xPA⟩, w_sum, w_max, w_min, w_sorted⟩
  have Tx : Txt mg := ⟨w_list⟩
  have Bx : Bt mg := ⟨w_list, w_len, w_range⟩
  have Gc : SgC K C := ⟨⟨pg, hd, po, sa⟩, nR, nT⟩
  have XN : XC K mg "NoSigns" CN := ⟨hCN, xN, kN, sN, tN⟩
  have MK : Mk K C fmIn := ⟨mkC, amIn, imIn, kpC⟩
  have XT : XC K mg "NoTerm" CT := ⟨hCT, xT, kT, sT, tT⟩
  have MM : Mks K mg aM := ⟨PySem.W.mg_of X G gM, fun H => .inr ⟨_, _, _, lM, rfl, rfl, (by show 3 ≤ sizeLine; rw [sizeLine_eq]; omega), .cons ⟨_, rfl⟩ (.cons ⟨_, rfl⟩ (.cons ⟨_, rfl⟩ .nil))⟩⟩
  have nRL' : PR ≠ PL := fun z => by
    rw [z] at nRL
    simp at nRL
  refine ⟨PySem.W.fnOf "law" "law" (defArgs sLaw) (defBody sLaw) (defScope sLaw) .none kVLaw dcLaw pmLaw anLaw (.ref kLaw) ctLaw, [(kWri, PR), (kLai, PL)], spLaw K [(PR, qWr), (PL, qLaid)], fun p hp => ?_, fun p hp => ?_, fun p hp => ?_, fun s u => .of_eq rfl, fun H a ns hl hH hS => ⟨a, ns, rfl, hS, hl, tabs_nil (cs := [(kWri, PR), (kLai, PL)]) (fun p hp => ?_) hH, fun _ => rfl⟩, fun base _ _ TBs => ?_⟩
  · simp only [List.mem_cons, List.not_mem_nil, or_false] at hp
    rcases hp with rfl | rfl
    · exact hT _ mR
    · exact hT _ mL
  · simp only [List.mem_cons, List.not_mem_nil, or_false] at hp
    rcases hp with rfl | rfl
    · exact oR
    · exact oL
  · simp only [List.mem_cons, List.not_mem_nil, or_false] at hp
    rcases hp with rfl | rfl
    · exact PySem.W.codeHd_of_K X hdR
    · exact PySem.W.codeHd_of_K X hdL
  · simp only [List.mem_cons, List.not_mem_nil, or_false] at hp
    rcases hp with rfl | rfl
    · exact ⟨_, List.mem_cons_self, rfl⟩
    · exact ⟨_, List.mem_cons_of_mem _ List.mem_cons_self, rfl⟩
  · have DTk := dfk (P := l.prog) (w := w) (base := base) (ok_take FTak FMix bMix gMix_ kMix_ Tx) gTak_ kTak_ bTak
    have DPi := dfk (ok_pick FPic DTk Bx) gPic_ kPic_ bPic
    have DWo := dfk (ok_words FWor DTk Bx) gWor_ kWor_ bWor
    have DBe := dfk (P := l.prog) (w := w) (base := base) (ok_begun FBeg Tx) gBeg_ kBeg_ bBeg
    have Dnum := dfk (P := l.prog) (w := w) (base := base) (ok_num FNum B) gNum_ kNum_ bNum
    have Dlst := dfk (P := l.prog) (w := w) (base := base) (ok_list FLst B) gLst_ kLst_ bLst
    have Dsma := dfk (P := l.prog) (w := w) (base := base) (ok_small FSma B) gSma_ kSma_ bSma
    have Dnam := dfk (ok_name FNam Dsma B) gNam_ kNam_ bNam
    have Dsig := dfk (ok_sign FSig Dnam Dnum B) gSig_ kSig_ bSig
    have OI := ok_init FmIn Dlst Dsig B XN Gc
    have Dtex := df_chain (P := l.prog) (w := w) (base := base) (fun n => n) (fun n => sp1 K n fun g => .str (text g)) gTex_ kTex_ bTex (sp1_zero fun vs H Q E => no_dp0 vs H Q E) (fun n IH => ok_text FTex IH T)
    have Dpts := df_chain (P := l.prog) (w := w) (base := base) (fun n => n) (fun n => sp1 K n fun g => .int (points g)) gPts_ kPts_ bPts (sp1_zero fun vs H Q E => no_dp0 vs H Q E) (fun n IH => ok_pts FPts IH T)
    have Ddee := df_chain (P := l.prog) (w := w) (base := base) (fun n => n) (fun n => sp1 K n fun g => .int (deep g)) gDee_ kDee_ bDee (sp1_zero fun vs H Q E => no_dp0 vs H Q E) (fun n IH => ok_deep FDee IH T)
    have Dwid := df_chain (P := l.prog) (w := w) (base := base) (fun n => n) (fun n => sp1 K n fun g => .int (wide g)) gWid_ kWid_ bWid (sp1_zero fun vs H Q E => no_dp0 vs H Q E) (fun n IH => ok_wide FWid IH T)
    have Dbey := dfk (ok_beyond FBey (Dpts 13) (Ddee 13) (Dwid 13) T) gBey_ kBey_ bBey
    have MH : Mt l.prog w K mg base C8.CX0 C "has" 1 ["self", "name"] (spHasG K C) := ⟨_, _, ok_hasG FmHa T Gc, ⟨amHa, imHa, kmHa_⟩, bmHa⟩
    have MKi : Mt l.prog w K mg base C8.CX0 C "kind" 2 ["self", "name"] (spKindG K C) := ⟨_, _, ok_kindG FmKi MH Gc, ⟨amKi, imKi, kmKi_⟩, bmKi⟩
    have MMa : Mt l.prog w K mg base C8.CX0 C "many" 2 ["self", "name"] (spManyG K C) := ⟨_, _, ok_manyG FmMa MH Gc, ⟨amMa, imMa, kmMa_⟩, bmMa⟩
    have Dgap := dfk (ok_gap FGap Dsma T) gGap_ kGap_ bGap
    have Dhpa := dfk (ok_hasParts FHPa MH MKi MMa T Gc) gHPa_ kHPa_ bHPa
    have Ddpt := df_chain (P := l.prog) (w := w) (base := base) (fun n => n + 4) (fun n => spDr K C n) gDpt_ kDpt_ bDpt (ok_dp (n := 0) (m := 3) (spI := fun _ _ _ _ => False) FDpt (dfk (sp1_zero fun _ _ _ _ z => z) gDpt_ kDpt_ bDpt) (fun l hl => absurd hl (by omega)) Dgap Dhpa T (Nat.le_refl _)) (fun n IH => ok_dp FDpt IH (fun l hl vs H Q E ⟨p, L, v, g, r, e, h1, h2, h3, h4, h5, h6⟩ => ⟨p, L, v, g, l, r, e, h1, h2, h3, h4, h5, by omega, h6⟩) Dgap Dhpa T (by omega))
    have Dope := dfk (P := l.prog) (w := w) (base := base) (ok_opened FOpe T) gOpe_ kOpe_ bOpe
    have Dmad := dfk (ok_made FMad MKi Dope (Dtex 13) T Gc (by decide)) gMad_ kMad_ bMad
    have Dane := df_chainB (P := l.prog) (w := w) (base := base) 13 (fun n => n + 16) (fun n => spAnew K C n) gAne_ kAne_ bAne (sp1_zero fun vs H Q E => no_anew0 vs H Q E) (fun n hn IH => ok_anew FAne IH (Dmad.up (by omega)) T (Nat.le_of_lt hn))
    have Dorn := dfk (ok_orNone FOrn ((Ddpt 12).up (show 16 ≤ 29 by decide)) (Dane 13 (Nat.le_refl _)) (Dbey.up (show 14 ≤ 29 by decide)) T) gOrn_ kOrn_ bOrn
    have OLa := ok_laid FLad Dorn XT
    have OTx := ok_termText FTtx OLa gLad_ kLad_ bLad ((Dtex 13).up (show 13 ≤ 31 by decide)) (Nat.le_refl _) (Nat.le_refl _)
    have OPo := ok_points FPoi OLa gLad_ kLad_ bLad ((Dpts 13).up (show 13 ≤ 31 by decide)) (Nat.le_refl _) (Nat.le_refl _)
    have ODe := ok_deepF FDep OLa gLad_ kLad_ bLad ((Ddee 13).up (show 13 ≤ 31 by decide)) (Nat.le_refl _) (Nat.le_refl _)
    have Dgof := df_chain (P := l.prog) (w := w) (base := base) (fun n => n) (fun n => spGapsOf K n) gGof_ kGof_ bGof (sp1_zero fun vs H Q E => no_gof0 vs H Q E) (fun n IH => ok_gapsOf FGof IH T)
    have OGa := ok_gaps FGas OLa gLad_ kLad_ bLad ((Dgof 13).up (show 13 ≤ 31 by decide)) T w_set (Nat.le_refl _) (Nat.le_refl _)
    have Ddra := dfk (ok_draft FDra Dorn) gDra_ kDra_ bDra
    have Dter := dfk (ok_term FTer Dorn) gTer_ kTer_ bTer
    have Dpto := dfk (P := l.prog) (w := w) (base := base) (ok_partsOf FPto T) gPto_ kPto_ bPto
    have OPr := ok_partRows FPrw OLa gLad_ kLad_ bLad Dpto T (by decide)
    have Dwof := dfk (P := l.prog) (w := w) (base := base) (ok_wordsOf FWof MM) gWof_ kWof_ bWof
    have Dtof := dfk (ok_treeOf FTof MM Dgap T w_enumerate) gTof_ kTof_ bTof
    have Ddof := dfk (ok_draftOf FDof MM Dnam Dgap Dtof T) gDof_ kDof_ bDof
    have ORe := ok_readTerm FRea Dwof Ddof Dnam MH Gc OLa gLad_ kLad_ bLad T (by decide)
    have DRe := dfk ORe gRea_ kRea_ bRea
    have Dlte := df_chain (P := l.prog) (w := w) (base := base) (fun n => n) (fun n => sp1 K n fun g => .str (text g)) gLTe_ kLTe_ bLTe (sp1_zero fun vs H Q E => no_dp0 vs H Q E) (fun n IH => ok_ltext FLTe IH T)
    have Dlpo := df_chain (P := l.prog) (w := w) (base := base) (fun n => n) (fun n => sp1 K n fun g => .int (points g)) gLPo_ kLPo_ bLPo (sp1_zero fun vs H Q E => no_dp0 vs H Q E) (fun n IH => ok_lpts FLPo IH T)
    have Dlde := df_chain (P := l.prog) (w := w) (base := base) (fun n => n) (fun n => sp1 K n fun g => .int (deep g)) gLDe_ kLDe_ bLDe (sp1_zero fun vs H Q E => no_dp0 vs H Q E) (fun n IH => ok_ldeep FLDe IH T)
    have Dlki := dfk (P := l.prog) (w := w) (base := base) (ok_lkinds FLKi T) gLKi_ kLKi_ bLKi
    have TBR := TBs (kWri, PR) List.mem_cons_self
    have TBL := TBs (kLai, PL) (List.mem_cons_of_mem _ List.mem_cons_self)
    have uR : ∀ p ∈ [(PR, qWr), (PL, qLaid)], p.1 = PR → p.2 = qWr := fun p hp e => by
      simp only [List.mem_cons, List.not_mem_nil, or_false] at hp
      rcases hp with rfl | rfl
      · rfl
      · exact absurd e.symm nRL'
    have uL : ∀ p ∈ [(PR, qWr), (PL, qLaid)], p.1 = PL → p.2 = qLaid := fun p hp e => by
      simp only [List.mem_cons, List.not_mem_nil, or_false] at hp
      rcases hp with rfl | rfl
      · exact absurd e nRL'
      · rfl
    have Dlai := df_chainB (P := l.prog) (w := w) (base := base) 30 (fun n => n + 33) (fun n => spLLaid K [(PR, qWr), (PL, qLaid)] n) gLai_ kLai_ bLai (sp1_zero fun vs H Q E => no_laid0 vs H Q E) (fun n hn IH => ok_llaid FLai IH (Dlte 30) T (Nat.le_of_lt hn) (by decide) (by omega) TBL (List.mem_cons_of_mem _ List.mem_cons_self) uL)
    have D30 : Df l.prog w K mg base C8.CX0 "_law_laid" 63 ["_law_kinds_here", "_law_tree"] (spLLaid K [(PR, qWr), (PL, qLaid)] 30) := Dlai 30 (Nat.le_refl _)
    have Dlea := dfk (ok_leaf (TT := [(PR, qWr), (PL, qLaid)]) FLea DPi T) gLea_ kLea_ bLea
    have Dtrm := df_chain (P := l.prog) (w := w) (base := base) (fun n => n + 63) (fun n => spTerm K [(PR, qWr), (PL, qLaid)] n) gTrm_ kTrm_ bTrm (sp1_zero fun vs H Q E => no_term0 vs H Q E) (fun n IH => ok_term' FTrm IH DTk DPi Dlea D30 Dlki T (by omega) (by omega) (by decide))
    have Dloo := df_chain (P := l.prog) (w := w) (base := base) (fun n => n + 2) (fun n => spLoose K [(PR, qWr), (PL, qLaid)] n) gLoo_ kLoo_ bLoo (sp1_zero fun vs H Q E => no_loose0 vs H Q E) (fun n IH => ok_loose FLoo IH DTk T (by omega))
    have Ddft := dfk (ok_draftT FDft (Dloo 30) (Dlpo 30) (Dlde 30) (by decide) (by decide) (by decide)) gDft_ kDft_ bDft
    have Dkin := dfk (ok_kinds7 (TT := [(PR, qWr), (PL, qLaid)]) FKin DTk DWo T) gKin_ kKin_ bKin
    have Dofp := df_chain (P := l.prog) (w := w) (base := base) (fun n => n) (fun n => spOfP K n) gOfP_ kOfP_ bOfP (sp1_zero fun vs H Q E => no_ofp0 vs H Q E) (fun n IH => ok_ofP FOfP IH T)
    have Dnea := dfk (ok_near (TT := [(PR, qWr), (PL, qLaid)]) FNea DTk (Dofp 6) T (by decide)) gNea_ kNea_ bNea
    have Dlgs := df_chain (P := l.prog) (w := w) (base := base) (fun n => n) (fun n => spLGaps K n) gLGs_ kLGs_ bLGs (sp1_zero fun vs H Q E => no_lgs0 vs H Q E) (fun n IH => ok_lgaps FLGs IH T)
    have Dcld := df_chain (P := l.prog) (w := w) (base := base) (fun n => n) (fun n => spCld K n) gCld_ kCld_ bCld (sp1_zero fun vs H Q E => no_cld0 vs H Q E) (fun n IH => ok_cld FCld IH T)
    have Dcgs := dfk (ok_cgs (TT := [(PR, qWr), (PL, qLaid)]) FCgs DTk DWo (Dlgs 13) T (by decide)) gCgs_ kCgs_ bCgs
    have Dahd := df_chain (P := l.prog) (w := w) (base := base) (fun n => n + 32) (fun n => spAhd K [(PR, qWr), (PL, qLaid)] C n) gAhd_ kAhd_ bAhd (sp1_zero fun vs H Q E => no_ahd0 vs H Q E) (fun n IH => ok_ahd FAhd IH DTk T (OLa.mono (show 31 ≤ 32 by decide)) gLad_ kLad_ bLad OTx gTtx_ kTtx_ bTtx DRe (by omega) (by omega))
    have Dsbn := dfk (ok_sbn (m := 32) FSbn T hC MK OI bmIn Dcgs ((Dcld 13).up (show 13 ≤ 14 by decide)) (OLa.mono (show 31 ≤ 32 by decide)) gLad_ kLad_ bLad OPo gPoi_ kPoi_ bPoi ODe gDep_ kDep_ bDep OGa gGas_ kGas_ bGas (by decide) (by decide) (by decide) (by decide)) gSbn_ kSbn_ bSbn
    have Dwri := dfk (ok_wr (m := 32) (N := 16) FWri T Dlea Ddra (Dlte 16) OPr gPrw_ kPrw_ bPrw TBR List.mem_cons_self uR (by decide) (by decide) (by decide) (by decide) (by decide)) gWri_ kWri_ bWri
    have Dsgr := dfk (ok_sgR (TT := [(PR, qWr), (PL, qLaid)]) FSgr DTk DWo T) gSgr_ kSgr_ bSgr
    exact ok_law (M := 72) (n := 14) FLaw T Gc hC MK OI bmIn DBe DTk Dkin Dnea Dsgr (Dtrm 8) Ddft Dlki Ddra Dter (OLa.mono (show 31 ≤ 32 by decide)) gLad_ kLad_ bLad OTx gTtx_ kTtx_ bTtx DRe (Dahd 14) Dsbn Dwri (by decide) (by decide) (by decide) (by decide) (by decide) (by decide) (by decide) (by decide) (by decide) (by decide) (by decide)
end K1
open PySem PySem.W PyProof.Rows
set_option Elab.async false
set_option maxRecDepth 100000 in
set_option maxHeartbeats 0 in
theorem PySem.Challenge.cw_termyard_k07_whole_laid_by_any_road_holds : PySem.Challenge.rw_termyard_k07_whole_laid_by_any_road.Holds := by
  w_on; o_law; k_head; (case hw => w_witness2)
  k_fill
  refine K1.walk_G (l := PySem.Challenge.rw_termyard_k07_whole_laid_by_any_road) (n := 63) (k := 73) (x := "_law_script") rfl (by decide) rfl ⟨rfl, by decide, by decide⟩ (fun w h Y => PySem.W.km_in_of Y) ?F
  case F =>
    intro w mg fa h Y KX G hmg
    have hT8 := PySem.W.km_tabs_of Y
    refine' K1.all_mk (PL := 417) (PR := 495) KX G hmg hT8 ?q_gC ?q_gCN ?q_gCT ?q_aNum ?q_lNum ?q_cNum ?q_kNum_ ?q_aLst ?q_lLst ?q_cLst ?q_kLst_ ?q_aSma ?q_lSma ?q_cSma ?q_kSma_ ?q_aNam ?q_lNam ?q_cNam ?q_kNam_ ?q_aGap ?q_lGap ?q_cGap ?q_kGap_ ?q_aSig ?q_lSig ?q_cSig ?q_kSig_ ?q_aTex ?q_lTex ?q_cTex ?q_kTex_ ?q_aPts ?q_lPts ?q_cPts ?q_kPts_ ?q_aDee ?q_lDee ?q_cDee ?q_kDee_ ?q_aWid ?q_lWid ?q_cWid ?q_kWid_ ?q_aBey ?q_lBey ?q_cBey ?q_kBey_ ?q_aHPa ?q_lHPa ?q_cHPa ?q_kHPa_ ?q_aDpt ?q_lDpt ?q_cDpt ?q_kDpt_ ?q_aMad ?q_lMad ?q_cMad ?q_kMad_ ?q_aOpe ?q_lOpe ?q_cOpe ?q_kOpe_ ?q_aAne ?q_lAne ?q_cAne ?q_kAne_ ?q_aOrn ?q_lOrn ?q_cOrn ?q_kOrn_ ?q_aDra ?q_lDra ?q_cDra ?q_kDra_ ?q_aTer ?q_lTer ?q_cTer ?q_kTer_ ?q_aPrw ?q_lPrw ?q_cPrw ?q_kPrw_ ?q_aPto ?q_lPto ?q_cPto ?q_kPto_ ?q_aWof ?q_lWof ?q_cWof ?q_kWof_ ?q_aTof ?q_lTof ?q_cTof ?q_kTof_ ?q_aDof ?q_lDof ?q_cDof ?q_kDof_ ?q_aRea ?q_lRea ?q_cRea ?q_kRea_ ?q_aLad ?q_lLad ?q_cLad ?q_kLad_ ?q_aPoi ?q_lPoi ?q_cPoi ?q_kPoi_ ?q_aDep ?q_lDep ?q_cDep ?q_kDep_ ?q_aGof ?q_lGof ?q_cGof ?q_kGof_ ?q_aGas ?q_lGas ?q_cGas ?q_kGas_ ?q_aTtx ?q_lTtx ?q_cTtx ?q_kTtx_ ?q_aBeg ?q_lBeg ?q_cBeg ?q_kBeg_ ?q_aMix ?q_lMix ?q_cMix ?q_kMix_ ?q_aTak ?q_lTak ?q_cTak ?q_kTak_ ?q_aPic ?q_lPic ?q_cPic ?q_kPic_ ?q_aWor ?q_lWor ?q_cWor ?q_kWor_ ?q_aSgr ?q_lSgr ?q_cSgr ?q_kSgr_ ?q_aLKi ?q_lLKi ?q_cLKi ?q_kLKi_ ?q_aLTe ?q_lLTe ?q_cLTe ?q_kLTe_ ?q_aLPo ?q_lLPo ?q_cLPo ?q_kLPo_ ?q_aLDe ?q_lLDe ?q_cLDe ?q_kLDe_ ?q_aLea ?q_lLea ?q_cLea ?q_kLea_ ?q_aTrm ?q_lTrm ?q_cTrm ?q_kTrm_ ?q_aLoo ?q_lLoo ?q_cLoo ?q_kLoo_ ?q_aDft ?q_lDft ?q_cDft ?q_kDft_ ?q_aKin ?q_lKin ?q_cKin ?q_kKin_ ?q_aOfP ?q_lOfP ?q_cOfP ?q_kOfP_ ?q_aNea ?q_lNea ?q_cNea ?q_kNea_ ?q_aLGs ?q_lLGs ?q_cLGs ?q_kLGs_ ?q_aAhd ?q_lAhd ?q_cAhd ?q_kAhd_ ?q_aCld ?q_lCld ?q_cCld ?q_kCld_ ?q_aCgs ?q_lCgs ?q_cCgs ?q_kCgs_ ?q_aWri ?q_lWri ?q_cWri ?q_kWri_ ?q_aSbn ?q_lSbn ?q_cSbn ?q_kSbn_ ?q_aLai ?q_lLai ?q_cLai ?q_kLai_ ?q_aLaw ?q_lLaw ?q_cLaw ?q_kLaw_ ?q_amIn ?q_imIn ?q_lmIn ?q_cmIn ?q_kmIn_ ?q_amHa ?q_imHa ?q_lmHa ?q_cmHa ?q_kmHa_ ?q_amKi ?q_imKi ?q_lmKi ?q_cmKi ?q_kmKi_ ?q_amMa ?q_imMa ?q_lmMa ?q_cmMa ?q_kmMa_ ?q_xSM ?q_xNL ?q_xMS ?q_xMP ?q_xGR ?q_xGL ?q_xPO ?q_xDE ?q_xPA ?q_z_isinstance ?q_z_int ?q_z_bool ?q_z_str ?q_z_list ?q_z_tuple ?q_z_len ?q_z_all ?q_z_range ?q_z_repr ?q_z_dict ?q_z_sum ?q_z_max ?q_z_min ?q_z_sorted ?q_z_set ?q_z_enumerate ?q_pg ?q_hd ?q_po ?q_sa ?q_nR ?q_nT ?q_mkC ?q_kpC ?q_xN ?q_kN ?q_sN ?q_tN ?q_xT ?q_kT ?q_sT ?q_tT ?q_gM ?q_lM ?q_mR ?q_oR ?q_hdR ?q_nRL ?q_mL ?q_oL ?q_hdL
    (case q_gC => first | k_is | rfl | decide +kernel | k_exc)
    (case q_gCN => first | k_is | rfl | decide +kernel | k_exc)
    (case q_gCT => first | k_is | rfl | decide +kernel | k_exc)
    (case q_aNum => first | k_is | rfl | decide +kernel | k_exc)
    (case q_lNum => first | k_is | rfl | decide +kernel | k_exc)
    (case q_cNum => first | k_is | rfl | decide +kernel | k_exc)
    (case q_kNum_ => first | k_is | rfl | decide +kernel | k_exc)
    (case q_aLst => first | k_is | rfl | decide +kernel | k_exc)
    (case q_lLst => first | k_is | rfl | decide +kernel | k_exc)
    (case q_cLst => first | k_is | rfl | decide +kernel | k_exc)
    (case q_kLst_ => first | k_is | rfl | decide +kernel | k_exc)
    (case q_aSma => first | k_is | rfl | decide +kernel | k_exc)
    (case q_lSma => first | k_is | rfl | decide +kernel | k_exc)
    (case q_cSma => first | k_is | rfl | decide +kernel | k_exc)
    (case q_kSma_ => first | k_is | rfl | decide +kernel | k_exc)
    (case q_aNam => first | k_is | rfl | decide +kernel | k_exc)
    (case q_lNam => first | k_is | rfl | decide +kernel | k_exc)
    (case q_cNam => first | k_is | rfl | decide +kernel | k_exc)
    (case q_kNam_ => first | k_is | rfl | decide +kernel | k_exc)
    (case q_aGap => first | k_is | rfl | decide +kernel | k_exc)
    (case q_lGap => first | k_is | rfl | decide +kernel | k_exc)
    (case q_cGap => first | k_is | rfl | decide +kernel | k_exc)
    (case q_kGap_ => first | k_is | rfl | decide +kernel | k_exc)
    (case q_aSig => first | k_is | rfl | decide +kernel | k_exc)
    (case q_lSig => first | k_is | rfl | decide +kernel | k_exc)
    (case q_cSig => first | k_is | rfl | decide +kernel | k_exc)
    (case q_kSig_ => first | k_is | rfl | decide +kernel | k_exc)
    (case q_aTex => first | k_is | rfl | decide +kernel | k_exc)
    (case q_lTex => first | k_is | rfl | decide +kernel | k_exc)
    (case q_cTex => first | k_is | rfl | decide +kernel | k_exc)
    (case q_kTex_ => first | k_is | rfl | decide +kernel | k_exc)
    (case q_aPts => first | k_is | rfl | decide +kernel | k_exc)
    (case q_lPts => first | k_is | rfl | decide +kernel | k_exc)
    (case q_cPts => first | k_is | rfl | decide +kernel | k_exc)
    (case q_kPts_ => first | k_is | rfl | decide +kernel | k_exc)
    (case q_aDee => first | k_is | rfl | decide +kernel | k_exc)
    (case q_lDee => first | k_is | rfl | decide +kernel | k_exc)
    (case q_cDee => first | k_is | rfl | decide +kernel | k_exc)
    (case q_kDee_ => first | k_is | rfl | decide +kernel | k_exc)
    (case q_aWid => first | k_is | rfl | decide +kernel | k_exc)
    (case q_lWid => first | k_is | rfl | decide +kernel | k_exc)
    (case q_cWid => first | k_is | rfl | decide +kernel | k_exc)
    (case q_kWid_ => first | k_is | rfl | decide +kernel | k_exc)
    (case q_aBey => first | k_is | rfl | decide +kernel | k_exc)
    (case q_lBey => first | k_is | rfl | decide +kernel | k_exc)
    (case q_cBey => first | k_is | rfl | decide +kernel | k_exc)
    (case q_kBey_ => first | k_is | rfl | decide +kernel | k_exc)
    (case q_aHPa => first | k_is | rfl | decide +kernel | k_exc)
    (case q_lHPa => first | k_is | rfl | decide +kernel | k_exc)
    (case q_cHPa => first | k_is | rfl | decide +kernel | k_exc)
    (case q_kHPa_ => first | k_is | rfl | decide +kernel | k_exc)
    (case q_aDpt => first | k_is | rfl | decide +kernel | k_exc)
    (case q_lDpt => first | k_is | rfl | decide +kernel | k_exc)
    (case q_cDpt => first | k_is | rfl | decide +kernel | k_exc)
    (case q_kDpt_ => first | k_is | rfl | decide +kernel | k_exc)
    (case q_aMad => first | k_is | rfl | decide +kernel | k_exc)
    (case q_lMad => first | k_is | rfl | decide +kernel | k_exc)
    (case q_cMad => first | k_is | rfl | decide +kernel | k_exc)
    (case q_kMad_ => first | k_is | rfl | decide +kernel | k_exc)
    (case q_aOpe => first | k_is | rfl | decide +kernel | k_exc)
    (case q_lOpe => first | k_is | rfl | decide +kernel | k_exc)
    (case q_cOpe => first | k_is | rfl | decide +kernel | k_exc)
    (case q_kOpe_ => first | k_is | rfl | decide +kernel | k_exc)
    (case q_aAne => first | k_is | rfl | decide +kernel | k_exc)
    (case q_lAne => first | k_is | rfl | decide +kernel | k_exc)
    (case q_cAne => first | k_is | rfl | decide +kernel | k_exc)
    (case q_kAne_ => first | k_is | rfl | decide +kernel | k_exc)
    (case q_aOrn => first | k_is | rfl | decide +kernel | k_exc)
    (case q_lOrn => first | k_is | rfl | decide +kernel | k_exc)
    (case q_cOrn => first | k_is | rfl | decide +kernel | k_exc)
    (case q_kOrn_ => first | k_is | rfl | decide +kernel | k_exc)
    (case q_aDra => first | k_is | rfl | decide +kernel | k_exc)
    (case q_lDra => first | k_is | rfl | decide +kernel | k_exc)
    (case q_cDra => first | k_is | rfl | decide +kernel | k_exc)
    (case q_kDra_ => first | k_is | rfl | decide +kernel | k_exc)
    (case q_aTer => first | k_is | rfl | decide +kernel | k_exc)
    (case q_lTer => first | k_is | rfl | decide +kernel | k_exc)
    (case q_cTer => first | k_is | rfl | decide +kernel | k_exc)
    (case q_kTer_ => first | k_is | rfl | decide +kernel | k_exc)
    (case q_aPrw => first | k_is | rfl | decide +kernel | k_exc)
    (case q_lPrw => first | k_is | rfl | decide +kernel | k_exc)
    (case q_cPrw => first | k_is | rfl | decide +kernel | k_exc)
    (case q_kPrw_ => first | k_is | rfl | decide +kernel | k_exc)
    (case q_aPto => first | k_is | rfl | decide +kernel | k_exc)
    (case q_lPto => first | k_is | rfl | decide +kernel | k_exc)
    (case q_cPto => first | k_is | rfl | decide +kernel | k_exc)
    (case q_kPto_ => first | k_is | rfl | decide +kernel | k_exc)
    (case q_aWof => first | k_is | rfl | decide +kernel | k_exc)
    (case q_lWof => first | k_is | rfl | decide +kernel | k_exc)
    (case q_cWof => first | k_is | rfl | decide +kernel | k_exc)
    (case q_kWof_ => first | k_is | rfl | decide +kernel | k_exc)
    (case q_aTof => first | k_is | rfl | decide +kernel | k_exc)
    (case q_lTof => first | k_is | rfl | decide +kernel | k_exc)
    (case q_cTof => first | k_is | rfl | decide +kernel | k_exc)
    (case q_kTof_ => first | k_is | rfl | decide +kernel | k_exc)
    (case q_aDof => first | k_is | rfl | decide +kernel | k_exc)
    (case q_lDof => first | k_is | rfl | decide +kernel | k_exc)
    (case q_cDof => first | k_is | rfl | decide +kernel | k_exc)
    (case q_kDof_ => first | k_is | rfl | decide +kernel | k_exc)
    (case q_aRea => first | k_is | rfl | decide +kernel | k_exc)
    (case q_lRea => first | k_is | rfl | decide +kernel | k_exc)
    (case q_cRea => first | k_is | rfl | decide +kernel | k_exc)
    (case q_kRea_ => first | k_is | rfl | decide +kernel | k_exc)
    (case q_aLad => first | k_is | rfl | decide +kernel | k_exc)
    (case q_lLad => first | k_is | rfl | decide +kernel | k_exc)
    (case q_cLad => first | k_is | rfl | decide +kernel | k_exc)
    (case q_kLad_ => first | k_is | rfl | decide +kernel | k_exc)
    (case q_aPoi => first | k_is | rfl | decide +kernel | k_exc)
    (case q_lPoi => first | k_is | rfl | decide +kernel | k_exc)
    (case q_cPoi => first | k_is | rfl | decide +kernel | k_exc)
    (case q_kPoi_ => first | k_is | rfl | decide +kernel | k_exc)
    (case q_aDep => first | k_is | rfl | decide +kernel | k_exc)
    (case q_lDep => first | k_is | rfl | decide +kernel | k_exc)
    (case q_cDep => first | k_is | rfl | decide +kernel | k_exc)
    (case q_kDep_ => first | k_is | rfl | decide +kernel | k_exc)
    (case q_aGof => first | k_is | rfl | decide +kernel | k_exc)
    (case q_lGof => first | k_is | rfl | decide +kernel | k_exc)
    (case q_cGof => first | k_is | rfl | decide +kernel | k_exc)
    (case q_kGof_ => first | k_is | rfl | decide +kernel | k_exc)
    (case q_aGas => first | k_is | rfl | decide +kernel | k_exc)
    (case q_lGas => first | k_is | rfl | decide +kernel | k_exc)
    (case q_cGas => first | k_is | rfl | decide +kernel | k_exc)
    (case q_kGas_ => first | k_is | rfl | decide +kernel | k_exc)
    (case q_aTtx => first | k_is | rfl | decide +kernel | k_exc)
    (case q_lTtx => first | k_is | rfl | decide +kernel | k_exc)
    (case q_cTtx => first | k_is | rfl | decide +kernel | k_exc)
    (case q_kTtx_ => first | k_is | rfl | decide +kernel | k_exc)
    (case q_aBeg => first | k_is | rfl | decide +kernel | k_exc)
    (case q_lBeg => first | k_is | rfl | decide +kernel | k_exc)
    (case q_cBeg => first | k_is | rfl | decide +kernel | k_exc)
    (case q_kBeg_ => first | k_is | rfl | decide +kernel | k_exc)
    (case q_aMix => first | k_is | rfl | decide +kernel | k_exc)
    (case q_lMix => first | k_is | rfl | decide +kernel | k_exc)
    (case q_cMix => first | k_is | rfl | decide +kernel | k_exc)
    (case q_kMix_ => first | k_is | rfl | decide +kernel | k_exc)
    (case q_aTak => first | k_is | rfl | decide +kernel | k_exc)
    (case q_lTak => first | k_is | rfl | decide +kernel | k_exc)
    (case q_cTak => first | k_is | rfl | decide +kernel | k_exc)
    (case q_kTak_ => first | k_is | rfl | decide +kernel | k_exc)
    (case q_aPic => first | k_is | rfl | decide +kernel | k_exc)
    (case q_lPic => first | k_is | rfl | decide +kernel | k_exc)
    (case q_cPic => first | k_is | rfl | decide +kernel | k_exc)
    (case q_kPic_ => first | k_is | rfl | decide +kernel | k_exc)
    (case q_aWor => first | k_is | rfl | decide +kernel | k_exc)
    (case q_lWor => first | k_is | rfl | decide +kernel | k_exc)
    (case q_cWor => first | k_is | rfl | decide +kernel | k_exc)
    (case q_kWor_ => first | k_is | rfl | decide +kernel | k_exc)
    (case q_aSgr => first | k_is | rfl | decide +kernel | k_exc)
    (case q_lSgr => first | k_is | rfl | decide +kernel | k_exc)
    (case q_cSgr => first | k_is | rfl | decide +kernel | k_exc)
    (case q_kSgr_ => first | k_is | rfl | decide +kernel | k_exc)
    (case q_aLKi => first | k_is | rfl | decide +kernel | k_exc)
    (case q_lLKi => first | k_is | rfl | decide +kernel | k_exc)
    (case q_cLKi => first | k_is | rfl | decide +kernel | k_exc)
    (case q_kLKi_ => first | k_is | rfl | decide +kernel | k_exc)
    (case q_aLTe => first | k_is | rfl | decide +kernel | k_exc)
    (case q_lLTe => first | k_is | rfl | decide +kernel | k_exc)
    (case q_cLTe => first | k_is | rfl | decide +kernel | k_exc)
    (case q_kLTe_ => first | k_is | rfl | decide +kernel | k_exc)
    (case q_aLPo => first | k_is | rfl | decide +kernel | k_exc)
    (case q_lLPo => first | k_is | rfl | decide +kernel | k_exc)
    (case q_cLPo => first | k_is | rfl | decide +kernel | k_exc)
    (case q_kLPo_ => first | k_is | rfl | decide +kernel | k_exc)
    (case q_aLDe => first | k_is | rfl | decide +kernel | k_exc)
    (case q_lLDe => first | k_is | rfl | decide +kernel | k_exc)
    (case q_cLDe => first | k_is | rfl | decide +kernel | k_exc)
    (case q_kLDe_ => first | k_is | rfl | decide +kernel | k_exc)
    (case q_aLea => first | k_is | rfl | decide +kernel | k_exc)
    (case q_lLea => first | k_is | rfl | decide +kernel | k_exc)
    (case q_cLea => first | k_is | rfl | decide +kernel | k_exc)
    (case q_kLea_ => first | k_is | rfl | decide +kernel | k_exc)
    (case q_aTrm => first | k_is | rfl | decide +kernel | k_exc)
    (case q_lTrm => first | k_is | rfl | decide +kernel | k_exc)
    (case q_cTrm => first | k_is | rfl | decide +kernel | k_exc)
    (case q_kTrm_ => first | k_is | rfl | decide +kernel | k_exc)
    (case q_aLoo => first | k_is | rfl | decide +kernel | k_exc)
    (case q_lLoo => first | k_is | rfl | decide +kernel | k_exc)
    (case q_cLoo => first | k_is | rfl | decide +kernel | k_exc)
    (case q_kLoo_ => first | k_is | rfl | decide +kernel | k_exc)
    (case q_aDft => first | k_is | rfl | decide +kernel | k_exc)
    (case q_lDft => first | k_is | rfl | decide +kernel | k_exc)
    (case q_cDft => first | k_is | rfl | decide +kernel | k_exc)
    (case q_kDft_ => first | k_is | rfl | decide +kernel | k_exc)
    (case q_aKin => first | k_is | rfl | decide +kernel | k_exc)
    (case q_lKin => first | k_is | rfl | decide +kernel | k_exc)
    (case q_cKin => first | k_is | rfl | decide +kernel | k_exc)
    (case q_kKin_ => first | k_is | rfl | decide +kernel | k_exc)
    (case q_aOfP => first | k_is | rfl | decide +kernel | k_exc)
    (case q_lOfP => first | k_is | rfl | decide +kernel | k_exc)
    (case q_cOfP => first | k_is | rfl | decide +kernel | k_exc)
    (case q_kOfP_ => first | k_is | rfl | decide +kernel | k_exc)
    (case q_aNea => first | k_is | rfl | decide +kernel | k_exc)
    (case q_lNea => first | k_is | rfl | decide +kernel | k_exc)
    (case q_cNea => first | k_is | rfl | decide +kernel | k_exc)
    (case q_kNea_ => first | k_is | rfl | decide +kernel | k_exc)
    (case q_aLGs => first | k_is | rfl | decide +kernel | k_exc)
    (case q_lLGs => first | k_is | rfl | decide +kernel | k_exc)
    (case q_cLGs => first | k_is | rfl | decide +kernel | k_exc)
    (case q_kLGs_ => first | k_is | rfl | decide +kernel | k_exc)
    (case q_aAhd => first | k_is | rfl | decide +kernel | k_exc)
    (case q_lAhd => first | k_is | rfl | decide +kernel | k_exc)
    (case q_cAhd => first | k_is | rfl | decide +kernel | k_exc)
    (case q_kAhd_ => first | k_is | rfl | decide +kernel | k_exc)
    (case q_aCld => first | k_is | rfl | decide +kernel | k_exc)
    (case q_lCld => first | k_is | rfl | decide +kernel | k_exc)
    (case q_cCld => first | k_is | rfl | decide +kernel | k_exc)
    (case q_kCld_ => first | k_is | rfl | decide +kernel | k_exc)
    (case q_aCgs => first | k_is | rfl | decide +kernel | k_exc)
    (case q_lCgs => first | k_is | rfl | decide +kernel | k_exc)
    (case q_cCgs => first | k_is | rfl | decide +kernel | k_exc)
    (case q_kCgs_ => first | k_is | rfl | decide +kernel | k_exc)
    (case q_aWri => first | k_is | rfl | decide +kernel | k_exc)
    (case q_lWri => first | k_is | rfl | decide +kernel | k_exc)
    (case q_cWri => first | k_is | rfl | decide +kernel | k_exc)
    (case q_kWri_ => first | k_is | rfl | decide +kernel | k_exc)
    (case q_aSbn => first | k_is | rfl | decide +kernel | k_exc)
    (case q_lSbn => first | k_is | rfl | decide +kernel | k_exc)
    (case q_cSbn => first | k_is | rfl | decide +kernel | k_exc)
    (case q_kSbn_ => first | k_is | rfl | decide +kernel | k_exc)
    (case q_aLai => first | k_is | rfl | decide +kernel | k_exc)
    (case q_lLai => first | k_is | rfl | decide +kernel | k_exc)
    (case q_cLai => first | k_is | rfl | decide +kernel | k_exc)
    (case q_kLai_ => first | k_is | rfl | decide +kernel | k_exc)
    (case q_aLaw => first | k_is | rfl | decide +kernel | k_exc)
    (case q_lLaw => first | k_is | rfl | decide +kernel | k_exc)
    (case q_cLaw => first | k_is | rfl | decide +kernel | k_exc)
    (case q_kLaw_ => first | k_is | rfl | decide +kernel | k_exc)
    (case q_amIn => first | k_is | rfl | decide +kernel | k_exc)
    (case q_imIn => first | k_is | rfl | decide +kernel | k_exc)
    (case q_lmIn => first | k_is | rfl | decide +kernel | k_exc)
    (case q_cmIn => first | k_is | rfl | decide +kernel | k_exc)
    (case q_kmIn_ => first | k_is | rfl | decide +kernel | k_exc)
    (case q_amHa => first | k_is | rfl | decide +kernel | k_exc)
    (case q_imHa => first | k_is | rfl | decide +kernel | k_exc)
    (case q_lmHa => first | k_is | rfl | decide +kernel | k_exc)
    (case q_cmHa => first | k_is | rfl | decide +kernel | k_exc)
    (case q_kmHa_ => first | k_is | rfl | decide +kernel | k_exc)
    (case q_amKi => first | k_is | rfl | decide +kernel | k_exc)
    (case q_imKi => first | k_is | rfl | decide +kernel | k_exc)
    (case q_lmKi => first | k_is | rfl | decide +kernel | k_exc)
    (case q_cmKi => first | k_is | rfl | decide +kernel | k_exc)
    (case q_kmKi_ => first | k_is | rfl | decide +kernel | k_exc)
    (case q_amMa => first | k_is | rfl | decide +kernel | k_exc)
    (case q_imMa => first | k_is | rfl | decide +kernel | k_exc)
    (case q_lmMa => first | k_is | rfl | decide +kernel | k_exc)
    (case q_cmMa => first | k_is | rfl | decide +kernel | k_exc)
    (case q_kmMa_ => first | k_is | rfl | decide +kernel | k_exc)
    (case q_xSM => first | k_is | rfl | decide +kernel | k_exc)
    (case q_xNL => first | k_is | rfl | decide +kernel | k_exc)
    (case q_xMS => first | k_is | rfl | decide +kernel | k_exc)
    (case q_xMP => first | k_is | rfl | decide +kernel | k_exc)
    (case q_xGR => first | k_is | rfl | decide +kernel | k_exc)
    (case q_xGL => first | k_is | rfl | decide +kernel | k_exc)
    (case q_xPO => first | k_is | rfl | decide +kernel | k_exc)
    (case q_xDE => first | k_is | rfl | decide +kernel | k_exc)
    (case q_xPA => first | k_is | rfl | decide +kernel | k_exc)
    (case q_z_isinstance => first | k_is | rfl | decide +kernel | k_exc)
    (case q_z_int => first | k_is | rfl | decide +kernel | k_exc)
    (case q_z_bool => first | k_is | rfl | decide +kernel | k_exc)
    (case q_z_str => first | k_is | rfl | decide +kernel | k_exc)
    (case q_z_list => first | k_is | rfl | decide +kernel | k_exc)
    (case q_z_tuple => first | k_is | rfl | decide +kernel | k_exc)
    (case q_z_len => first | k_is | rfl | decide +kernel | k_exc)
    (case q_z_all => first | k_is | rfl | decide +kernel | k_exc)
    (case q_z_range => first | k_is | rfl | decide +kernel | k_exc)
    (case q_z_repr => first | k_is | rfl | decide +kernel | k_exc)
    (case q_z_dict => first | k_is | rfl | decide +kernel | k_exc)
    (case q_z_sum => first | k_is | rfl | decide +kernel | k_exc)
    (case q_z_max => first | k_is | rfl | decide +kernel | k_exc)
    (case q_z_min => first | k_is | rfl | decide +kernel | k_exc)
    (case q_z_sorted => first | k_is | rfl | decide +kernel | k_exc)
    (case q_z_set => first | k_is | rfl | decide +kernel | k_exc)
    (case q_z_enumerate => first | k_is | rfl | decide +kernel | k_exc)
    (case q_pg => first | k_is | rfl | decide +kernel | k_exc)
    (case q_hd => first | k_is | rfl | decide +kernel | k_exc)
    (case q_po => first | k_is | rfl | decide +kernel | k_exc)
    (case q_sa => first | k_is | rfl | decide +kernel | k_exc)
    (case q_nR => first | k_is | rfl | decide +kernel | k_exc)
    (case q_nT => first | k_is | rfl | decide +kernel | k_exc)
    (case q_mkC => first | k_is | rfl | decide +kernel | k_exc)
    (case q_kpC => first | k_is | rfl | decide +kernel | k_exc)
    (case q_xN => first | k_is | rfl | decide +kernel | k_exc)
    (case q_kN => first | k_is | rfl | decide +kernel | k_exc)
    (case q_sN => first | k_is | rfl | decide +kernel | k_exc)
    (case q_tN => first | k_is | rfl | decide +kernel | k_exc)
    (case q_xT => first | k_is | rfl | decide +kernel | k_exc)
    (case q_kT => first | k_is | rfl | decide +kernel | k_exc)
    (case q_sT => first | k_is | rfl | decide +kernel | k_exc)
    (case q_tT => first | k_is | rfl | decide +kernel | k_exc)
    (case q_gM => first | k_is | rfl | decide +kernel | k_exc)
    (case q_lM => first | k_is | rfl | decide +kernel | k_exc)
    (case q_mR => first | k_is | rfl | decide +kernel | k_exc)
    (case q_oR => first | k_is | rfl | decide +kernel | k_exc)
    (case q_hdR => first | k_is | rfl | decide +kernel | k_exc)
    (case q_nRL => first | k_is | rfl | decide +kernel | k_exc)
    (case q_mL => first | k_is | rfl | decide +kernel | k_exc)
    (case q_oL => first | k_is | rfl | decide +kernel | k_exc)
    (case q_hdL => first | k_is | rfl | decide +kernel | k_exc)
