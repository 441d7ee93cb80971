import PyProof.Rows.All
import Wide.All
import OpenK.AllK
import HandS.Set
import HandS.SetFor
import HandS.SortInts
import PyProof.Rows.SortStr
import PyProof.Rows.SortKeyStr
import HandS.More
import Wide.FinOn
import HandS.ForMost
import HandS.Wide
import HandS.Walk
import HandS.Flow
import HandS.Codes
import HandS.IsInst
import HandS.Deep
import HandS.Exc
import HandS.ExcOwn
import HandS.WordsExc
import KE.KExcSuper
import HandS.Ends
import HandS.SortKw
import HandS.ExcValue
import HandS.Lambda
import KE.SortKeyHeap
import KE.DataMinMax
import HandS.FStr
import HandS.Star
import HandS.TupAny
import PyProof.ReprRoads
import PyProof.Lay0
import HandS.EndTab
import HandS.Style
import KE.SortData
import KE.DataFind
import KE.KUnpackStar
import HandS.Defaults
import KE.KDictPairs
import HandS.Conv
import KE.KNestM
import PySem.Challenge.RW_termyard_k10_terms_seen
set_option Elab.async false
set_option linter.all false
set_option maxRecDepth 100000
set_option maxHeartbeats 4000000
/-! sets of texts: set(xs), sorted(set) -/
namespace SetS
open PySem PySem.Spec PyProof.Rows L2
abbrev Row := Int × Value
def txt (e : Row) : Str := match e.2 with | .str x _ => x | _ => Str.empty
def Fit (w : World) (e : Row) : Prop := ∃ x t, e.2 = Value.str x t ∧ e.1 = hashStr w x
/-- a set of just these texts, its object, rows, age and table -/
structure At (w : World) (h : Heap) (a : Addr) (L : List Str) (o : Obj) (es : Array Row) (ep : Nat) (t : SetTable) : Prop where
  ob : h.get? a = some o
  ex : o.ExactSet
  da : o.data = .set es ep t
  good : ∀ e ∈ es.toList, Fit w e
  keys : (es.toList.map txt).Perm L
  nd : L.Nodup
  few : L.length < scanBound
  fits : t.fits es.size = true
  ris : Ris t.place.toList
  led : w.params.followText "set-order" = true ∨ t.led = true
def Is (w : World) (h : Heap) (a : Addr) (L : List Str) : Prop := ∃ o es ep t, At w h a L o es ep t
def put (k : Str) (L : List Str) : List Str := if k ∈ L then L else k :: L
theorem put_nd {k : Str} {L : List Str} (h : L.Nodup) : (put k L).Nodup := by
  unfold put
  split
  · exact h
  · rename_i n
    exact List.nodup_cons.mpr ⟨n, h⟩
theorem put_mem {k x : Str} {L : List Str} : x ∈ put k L ↔ x = k ∨ x ∈ L := by
  unfold put
  split
  · rename_i m
    exact ⟨.inr, fun q => q.elim (fun e => e ▸ m) id⟩
  · exact List.mem_cons
theorem put_len (k : Str) (L : List Str) : (put k L).length ≤ L.length + 1 := by
  unfold put
  split <;> simp
section
variable {P : Program} {w : World} {h h' : Heap} {a : Addr} {L : List Str} {o : Obj} {es : Array Row} {ep : Nat} {t : SetTable}
theorem Is.keep (R : Is w h a L) (k : ∀ o, h.get? a = some o → h'.get? a = some o) : Is w h' a L := by
  obtain ⟨o, es, ep, t, r⟩ := R
  exact ⟨o, es, ep, t, k o r.ob, r.ex, r.da, r.good, r.keys, r.nd, r.few, r.fits, r.ris, r.led⟩
theorem At.els (R : At w h a L o es ep t) : ElemsOf (PySem.strKind P w) es.toList := fun e he => by
  obtain ⟨x, u, q1, q2⟩ := R.good e he
  rw [q1]
  exact ⟨⟨x, strKind_is P w x u, q2⟩, rfl⟩
theorem At.size (R : At w h a L o es ep t) : es.size = L.length := by
  rw [← R.keys.length_eq, List.length_map, Array.length_toList]
theorem fit_is {e : Row} (g : Fit w e) (k : Str) : (PySem.strKind P w).is k e.2 = true ↔ txt e = k := by
  obtain ⟨x, u, q, _⟩ := g
  unfold txt
  rw [q]
  constructor
  · intro z
    exact (PySem.strKind P w).inj (.str x u) x k (strKind_is P w x u) z
  · intro z
    rw [← z]
    exact strKind_is P w x u
end
section
variable {P : Program} {w : World} {A : Around} {E : Value → Shared → Prop} {s : Shared} {a : Addr} {L : List Str}
/-- what is left to do when a row was laid -/
theorem laid_row {ask : Bool → Sem Unit} (na : ∀ (b : Bool) (s1 : Shared) (Q1 : Unit → Shared → Prop), Q1 () s1 → wpAny (model P w) A (ask b) Q1 E s1) {o : Obj} {es es1 : Array Row} {ep : Nat} {t t2 : SetTable} {L' : List Str} {wd : Bool} {R : Option Bool → Shared → Prop}
    (ob : s.heap.get? a = some o) (ex : o.ExactSet) (da : o.data = .set es ep t) (good : ∀ e ∈ es1.toList, Fit w e) (keys : (es1.toList.map txt).Perm L') (nd : L'.Nodup) (few : L'.length < scanBound) (fits : t2.fits es1.size = true) (ris : Ris t2.place.toList)
    (led : w.params.followText "set-order" = true ∨ t2.led = true) (hR : ∀ h', Heap.SameBut a s.heap h' → Is w h' a L' → R (some true) { s with heap := h' }) :
    wpAny (model P w) A (do
        storeSet a es1 t2
        if (!wd && t2.tooFull) = true then do
            ask (relayAll t2 es1 (SetTable.grown es1.size)).2.2
            storeSet a (relayAll t2 es1 (SetTable.grown es1.size)).1 (relayAll t2 es1 (SetTable.grown es1.size)).2.1
            pure (some true)
          else pure (some true)) R E s := by
  have sz : es1.size < scanBound := by rw [← Array.length_toList, ← List.length_map (f := txt), keys.length_eq]; exact few
  refine wpAny_bind (wpAny_storeSet_of ob da ?_ (fits_of_scanBound sz)); have ob1 := store_at (es' := es1) (t' := t2) ob da
  have b1 := Heap.SameBut.update s.heap a (Obj.putSet es1 t2)
  by_cases c : (!wd && t2.tooFull) = true
  · rw [if_pos c]
    have p := relayAll_perm t2 es1 (SetTable.grown es1.size); have f3 := relayAll_fits t2 es1 (SetTable.grown es1.size)
    have r3 := relayAll_ris t2 es1 (SetTable.grown es1.size); have l3 := relayAll_led t2 es1 (SetTable.grown es1.size)
    generalize relayAll t2 es1 (SetTable.grown es1.size) = Y at p f3 r3 l3 ⊢
    obtain ⟨es2, t3, gv⟩ := Y; dsimp only at p f3 r3 l3 ⊢
    have sz2 : es2.size < scanBound := by rw [← Array.length_toList, p.length_eq, Array.length_toList]; exact sz
    refine wpAny_bind (na _ _ _ (wpAny_bind (wpAny_storeSet_of ob1 rfl ?_ (fits_of_scanBound sz2))))
    have ob2 := store_at (es' := es2) (t' := t3) ob1 rfl
    exact wpAny_pure (hR _ (b1.trans (Heap.SameBut.update _ a _)) ⟨_, es2, _, t3, ob2, ex, rfl, fun e he => good e (p.mem_iff.mp he), (p.map txt).trans keys, nd, few, f3, r3, led.imp id fun z => l3.trans z⟩)
  · rw [if_neg c]
    exact wpAny_pure (hR _ b1 ⟨_, es1, _, t2, ob1, ex, rfl, good, keys, nd, few, fits, ris, led⟩)
/-- one more text -/
theorem add {k : Str} {u : Tok} {Q : Bool → Shared → Prop} (R : Is w s.heap a L) (room : L.length + 1 < scanBound) (hQ : ∀ b h', Heap.SameBut a s.heap h' → Is w h' a (put k L) → Q b { s with heap := h' }) :
    wpAny (model P w) A (setAddHashed a (.str k u) ((PySem.strKind P w).hash k)) Q E s := by
  obtain ⟨o, es, ep, t, r⟩ := R
  have hk : (PySem.strKind P w).is k (.str k u) = true := strKind_is P w k u
  have sc : (Value.str k u).scannable = true := rfl
  have el : ElemsOf (PySem.strKind P w) es.toList := r.els
  have hb : es.size < scanBound := by rw [r.size]; exact r.few
  unfold setAddHashed; unfold setAddHashedIn
  refine wpAny_holding (wpAny_bind (wpAny_setState_of r.ob r.da r.fits ?_)); dsimp only
  rw [byScan_of sc hb el, if_pos rfl]
  unfold setAddByScan
  refine wpAny_bind (wpAny_bind (wpAny_rule (wpAny_bind (wpAny_setScan_of hk r.ob r.da r.fits el ?_))))
  cases q : List.findIdx? (fun e => (PySem.strKind P w).is k e.2) es.toList with
  | some j =>
    obtain ⟨hj, pj, _⟩ := List.findIdx?_eq_some_iff_getElem.mp q
    have m : k ∈ L := r.keys.mem_iff.mp (List.mem_map.mpr ⟨_, List.getElem_mem hj, (fit_is (P := P) (r.good _ (List.getElem_mem hj)) k).1 pj⟩)
    have ep' : put k L = L := if_pos m
    dsimp only
    exact wpAny_pure (wpAny_pure (hQ _ s.heap (Heap.SameBut.refl a s.heap) (by rw [ep']; exact ⟨o, es, ep, t, r⟩)))
  | none =>
    have m : k ∉ L := fun z => by
      obtain ⟨e, he, q2⟩ := List.mem_map.mp (r.keys.mem_iff.mpr z)
      have c := List.findIdx?_eq_none_iff.mp q e he
      rw [(fit_is (P := P) (r.good e he) k).2 q2] at c; cases c
    have ep' : put k L = k :: L := if_neg m
    dsimp only
    have gw : ∀ (b : Bool) {s1 : Shared} {Q1 : Unit → Shared → Prop}, Q1 () s1 → wpAny (model P w) A (match b with | true => rule "set.scan.the-table-gave-way" | false => pure ()) Q1 E s1 := fun b s1 Q1 z => by
      cases b <;> first | exact wpAny_pure z | exact wpAny_rule z
    have p := layNew_perm t es ((PySem.strKind P w).hash k) (.str k u); have f1 := layNew_fits t es ((PySem.strKind P w).hash k) (.str k u)
    have r1 := layNew_ris t es ((PySem.strKind P w).hash k) (.str k u) r.ris; have l1 := layNew_led t es ((PySem.strKind P w).hash k) (.str k u)
    generalize layNew t es ((PySem.strKind P w).hash k) (.str k u) = Y at p f1 r1 l1 ⊢
    obtain ⟨es1, t1, wd, gv⟩ := Y; dsimp only at p f1 r1 l1 ⊢
    have pc : es1.toList.Perm (((PySem.strKind P w).hash k, Value.str k u) :: es.toList) := by
      rw [Array.toList_push] at p
      exact p.trans (List.perm_append_singleton _ _)
    have pk : (es1.toList.map txt).Perm (put k L) := by
      rw [ep']
      exact (pc.map txt).trans (List.Perm.cons k r.keys)
    have g1 : ∀ e ∈ es1.toList, Fit w e := fun e he => by
      rcases List.mem_cons.mp (pc.mem_iff.mp he) with z | z
      · exact z ▸ ⟨k, u, rfl, rfl⟩
      · exact r.good e z
    have few : (put k L).length < scanBound := Nat.lt_of_le_of_lt (put_len k L) room
    have led : w.params.followText "set-order" = true ∨ t1.led = true := r.led.imp id fun z => l1.trans z
    refine wpAny_bind (gw _ ?_)
    split
    · refine wpAny_bind ?_
      rw [hashByValue_scannable 8 sc]
      refine wpAny_pure (laid_row (fun b s1 Q1 z => by cases b <;> first | exact wpAny_pure z | exact wpAny_rule z) r.ob r.ex r.da g1 pk (put_nd r.nd) few ?_ ?_ ?_ fun h' sb i => ?_)
      · first | (split <;> first | exact f1 | exact SetTable.fits_plain_off f1) | exact f1
      · first | (split <;> exact r1) | exact r1
      · first | (split <;> exact led) | exact led
      · dsimp only; exact wpAny_pure (hQ _ h' sb i)
    · refine wpAny_bind (wpAny_pure ?_)
      simp only [↓reduceIte]
      refine laid_row (fun b s1 Q1 z => by cases b <;> first | exact wpAny_pure z | exact wpAny_rule z) r.ob r.ex r.da g1 pk (put_nd r.nd) few f1 r1 led fun h' sb i => ?_
      dsimp only; exact wpAny_pure (hQ _ h' sb i)
end
end SetS
set_option Elab.async false
set_option linter.all false
set_option maxRecDepth 100000
set_option maxHeartbeats 4000000
namespace SetS
open PySem PySem.Spec PyProof.Rows L2
/-- what stands in the set behind the first i texts -/
def upto (xs : List Str) (i : Nat) : List Str := (xs.take i).foldl (fun l k => put k l) []
theorem upto_next {xs : List Str} {i : Nat} {x : Str} (h : xs[i]? = some x) : upto xs (i + 1) = put x (upto xs i) := by
  unfold upto
  rw [List.take_succ, h, List.foldl_append]
  rfl
theorem upto_len (xs : List Str) : ∀ i, (upto xs i).length ≤ i
  | 0 => by simp [upto]
  | i + 1 => by
    cases h : xs[i]? with
    | none =>
      have e : upto xs (i + 1) = upto xs i := by
        unfold upto
        rw [List.take_succ, h]
        simp
      rw [e]
      exact Nat.le_succ_of_le (upto_len xs i)
    | some x =>
      rw [upto_next h]
      exact Nat.le_trans (put_len _ _) (Nat.succ_le_succ (upto_len xs i))
theorem fold_mem : ∀ (xs l : List Str) (x : Str), x ∈ xs.foldl (fun l k => put k l) l ↔ x ∈ xs ∨ x ∈ l
  | [], l, x => by simp
  | y :: r, l, x => by
    rw [List.foldl_cons, fold_mem r, put_mem, List.mem_cons]
    constructor
    · rintro (h | h | h)
      · exact .inl (.inr h)
      · exact .inl (.inl h)
      · exact .inr h
    · rintro ((h | h) | h)
      · exact .inr (.inl h)
      · exact .inl h
      · exact .inr (.inr h)
theorem upto_all (xs : List Str) (x : Str) : x ∈ upto xs xs.length ↔ x ∈ xs := by
  unfold upto
  rw [List.take_length, fold_mem]
  simp
section
variable {P : Program} {w : World} {A : Around} {E : Value → Shared → Prop} {s : Shared}
/-- the loop of set.update over texts -/
theorem upd_loop {I S : Addr} {fp wr : List Addr} {G : Array GenState → Array GenState → Prop} {n : Nat} {Pv : Nat → Value → Prop} {St : Nat → Shared → Prop} {R : Result → Shared → Prop} (W : WalksS P w A.in1 I fp wr G n Pv St) (nS : S ∉ fp) (xs : List Str)
    (hn : n = xs.length) (few : xs.length + 1 < scanBound) (hv : ∀ i v, Pv i v → ∃ x t, xs[i]? = some x ∧ v = .str x t) :
    ∀ (k i : Nat) (s : Shared), n - i = k → i ≤ n → St i s → Is w s.heap S (upto xs i) → (∀ s', Moved (S :: wr) G s s' → Is w s'.heap S (upto xs n) → R (.ok (.ret .none)) s') → codeAny (model P w) A (.builtin "set.update.loop" ⟨[.ref S, .ref I], []⟩) R s := by
  have nw : S ∉ wr := fun z => nS (W.sub _ z)
  have more : ∀ b ∈ wr, b ∈ S :: wr := fun b z => List.mem_cons_of_mem _ z
  intro k
  induction k with
  | zero =>
    intro i s e1 e2 st i0 fin
    obtain rfl : i = n := by omega
    refine codeAny_builtin F.entry_set_update_loop ?_; rw [Around.under_plainId F.plain_set_update_loop _]
    refine wpAny_bind (W.done s _ _ st fun s' mv => ?_)
    exact wpAny_pure (fin s' (mv.mono more) (i0.keep fun o q => mv.heap S o nw q))
  | succ k ih =>
    intro i s e1 e2 st i0 fin
    have lt : i < n := by omega
    refine codeAny_builtin F.entry_set_update_loop ?_; rw [Around.under_plainId F.plain_set_update_loop _]
    refine wpAny_bind (W.item i s _ _ lt st fun v s' pv st' mv => ?_)
    obtain ⟨x, t, hx, rfl⟩ := hv i v pv
    have i1 := i0.keep (h' := s'.heap) fun o q => mv.heap S o nw q
    show wpAny _ A.in1 (holding [Value.str x t] (setAdd S (.str x t)) >>= _) _ _ s'
    refine wpAny_bind (wpAny_holding ?_); unfold setAdd
    refine wpAny_holding (wpAny_bind ((PySem.strKind P w).pyHash (strKind_is P w x t) ?_))
    have room : (upto xs i).length + 1 < scanBound := by have := upto_len xs i; omega
    refine add (s := { s' with toks := s'.toks + 1 }) i1 room fun b h' sb i2 => ?_
    rw [← upto_next hx] at i2
    refine wpAny_pure ⟨plainId_quiet F.plain_set_update_loop _, ih (i + 1) _ (by omega) lt (W.frame _ s' _ _ st' (Nat.le_succ _) fun b hb o q => (sb.2 b fun z => nS (z ▸ hb)).trans q) i2 fun s'' mv' i3 => ?_⟩
    exact fin s'' (Moved.trans W.gtrans ((mv.mono more).then_heap (Nat.le_succ _) fun b o hb q => (sb.2 b fun z => hb (z ▸ List.mem_cons_self)).trans q) mv') i3
abbrev nova (w : World) : Obj := { cls := .type "set", dict := none, data := .set #[] 0 (.fresh 0 0 (!w.params.followText "set-order")) }
theorem nova_is {h : Heap} {a : Addr} (g : h.get? a = some (nova w)) : Is w h a [] :=
  ⟨_, #[], 0, _, g, ⟨rfl, rfl, rfl⟩, rfl, fun e he => by simp at he, by simp, List.nodup_nil, by decide, by rfl, List.Pairwise.nil, by
    show _ ∨ (!w.params.followText "set-order") = true
    cases w.params.followText "set-order" <;> simp⟩
theorem strs_at : ∀ {vs : List Value} {xs : List Str}, StrsAre vs xs → ∀ (i : Nat) (v : Value), vs[i]? = some v → ∃ x t, xs[i]? = some x ∧ v = .str x t
  | _, _, .nil, i, v, h => by simp at h
  | _, _, .cons x t r, 0, v, h => ⟨x, t, rfl, (Option.some.inj h).symm⟩
  | _, _, .cons x t r, i + 1, v, h => strs_at r i v h
theorem strs_len : ∀ {vs : List Value} {xs : List Str}, StrsAre vs xs → vs.length = xs.length
  | _, _, .nil => rfl
  | _, _, .cons x t r => congrArg (· + 1) (strs_len r)
set_option maxHeartbeats 8000000 in
/-- set(xs), xs a list of texts -/
theorem call_set {l : Addr} {items : Array Value} {xs : List Str} {Q : Value → Shared → Prop} (hh : A.handled = none) (hl : s.heap.IsList l items) (hx : StrsAre items.toList xs) (few : xs.length + 1 < scanBound)
    (hq : ∀ (h' : Heap) (tk : Nat), Is w h' s.heap.objs.size (upto xs xs.length) → (∀ b o, s.heap.get? b = some o → h'.get? b = some o) → Q (.ref s.heap.objs.size) { s with heap := h', toks := tk }) : wpAny (model P w) A (call (.type "set") [.ref l]) Q E s := by
  have sz : items.size = xs.length := by rw [← Array.length_toList]; exact strs_len hx
  obtain ⟨cc, ctl, c1⟩ := F.called_set.mro; have c2 := F.called_set.made; have c3 := F.called_set.sub
  refine wpAny_call (codeAny_of_tree ?_); show wpAny _ _ (callAny (.type "set") _) _ _ _
  refine wpAny_pure ⟨Code.quiet_builtin _ (by decide +kernel), codeAny_builtin F.entry_type_call ?_⟩; rw [Around.under_plain (weight_type_call_type "set" [.ref l] []) rfl]
  have c4 := F.called_set.notType; have c5 := F.called_set.canCreate; have c6 := F.typeCall_set_1 (.ref l)
  repeat (any_goals (first | assumption | wp_step))
  refine codeAny_mono (code_set_led1 (.ref l) (E := E) (Q₁ := fun u s1 => u = .ref s.heap.objs.size ∧ s1 = { s with heap := s.heap.push (nova w) }) ⟨rfl, rfl⟩) fun r s1 hr => ?_
  match r, hr with
  | .error e, hr => exact hr
  | .ok .next, hr => exact hr.elim
  | .ok .brk, hr => exact hr.elim
  | .ok .cont, hr => exact hr.elim
  | .ok (.ret u), hr =>
    obtain ⟨rfl, rfl⟩ := hr
    have g0 : (s.heap.push (nova w)).get? s.heap.objs.size = some (nova w) := Heap.get?_push_size _ rfl
    have ty : Shared.TypeIs { s with heap := s.heap.push (nova w) } (.ref s.heap.objs.size) "set" := ⟨_, g0, rfl⟩
    have c7 := F.called_set.init.lookup; have c8 := F.called_set.init.bind (.ref s.heap.objs.size)
    repeat (any_goals (first | assumption | wp_step))
    refine codeAny_mono (codeAny_call_builtin (R := wants (fun r s2 => r = .none ∧ ∃ h' tk, s2 = { s with heap := h', toks := tk } ∧ Is w h' s.heap.objs.size (upto xs xs.length) ∧ ∀ b o, s.heap.get? b = some o → h'.get? b = some o) E) F.called_set.init.plain F.entry_set_init (check_set_init_1 ty ?_)) fun r2 s2 hr2 => ?_
    · obtain ⟨ol, hol, hcl, nl, hdl⟩ := hl
      obtain ⟨ocls, odict, odata, oslots⟩ := ol
      dsimp only at hcl hdl; subst hcl hdl
      have hol1 : (s.heap.push (nova w)).get? l = some { cls := .type "list", dict := odict, data := .seq items nl, slots := oslots } := Heap.get?_push_of_some _ hol
      have d1 := F.sub_list_set; have d2 := F.sub_list_frozenset
      have d3 : (Value.type "list" == Value.type "dict") = false := by decide
      have il : (s.heap.push (nova w)).IsList l items := ⟨_, hol1, rfl, nl, rfl⟩
      unfold Builtin.«set.__init__»; unfold noKeywords Builtin.Frozenset.updateFrom
      generalize hPI : pyIter = PI
      wp_walk
      subst hPI
      refine wpAny_pyIter_list il (wpAny_bind (wpAny_runValue ?_))
      have lS : l < s.heap.objs.size := Heap.lt_size hol
      have h3 : A.in1.in1.in1.handled = none := by simp [hh]
      have z1 : (s.heap.push (nova w)).objs.size = s.heap.objs.size + 1 := Heap.size_push ..
      have n1 : l ≠ (s.heap.push (nova w)).objs.size := by rw [z1]; exact Nat.ne_of_lt (Nat.lt_succ_of_lt lS)
      have n2 : s.heap.objs.size ∉ [(s.heap.push (nova w)).objs.size, l] := by
        rw [z1]
        intro m
        rcases List.mem_cons.mp m with m | m
        · exact absurd m (Nat.ne_of_lt (Nat.lt_succ_self _))
        · exact absurd (List.mem_singleton.mp m) (Nat.ne_of_gt lS)
      have at_ : ∀ (i : Nat) (v : Value), items[i]? = some v → ∃ x t, xs[i]? = some x ∧ v = .str x t := fun i v e => strs_at hx i v (by rw [Array.getElem?_toList]; exact e)
      refine upd_loop ((Walks.list h3 _ l n1 items).toS) n2 xs sz few at_ (items.size - 0) 0 _ (by omega) (Nat.zero_le _) ⟨⟨_, Heap.get?_push_size _ rfl, rfl, rfl⟩, (il.push _)⟩ (nova_is (Heap.get?_push_of_some _ g0)) fun s' mv i' => ?_
      obtain ⟨h', g2, d', tk', os'⟩ := s'
      obtain rfl : g2 = s.gens := mv.gens
      obtain rfl : d' = s.drawn := mv.drawn
      obtain rfl : os' = s.os := mv.os
      show wpAny _ _ _ _ _ _
      refine wpAny_pure ?_
      rw [sz] at i'
      show wpAny _ _ (ret Value.none) _ _ _
      refine wpAny_pure ⟨rfl, h', tk', rfl, i', fun b o e => ?_⟩
      have b0 : b < s.heap.objs.size := Heap.lt_size e
      refine mv.heap b o (fun m => ?_) (Heap.get?_push_of_some _ (Heap.get?_push_of_some _ e))
      rcases List.mem_cons.mp m with m | m
      · exact absurd m (Nat.ne_of_lt b0)
      · have m1 := List.mem_singleton.mp m
        rw [z1] at m1
        exact absurd m1 (Nat.ne_of_lt (Nat.lt_succ_of_lt b0))
    · match r2, hr2 with
      | .error e, hr2 => exact hr2
      | .ok .next, hr2 => exact hr2.elim
      | .ok .brk, hr2 => exact hr2.elim
      | .ok .cont, hr2 => exact hr2.elim
      | .ok (.ret u), hr2 =>
        obtain ⟨rfl, h', tk, rfl, i', k'⟩ := hr2
        repeat (any_goals (first | assumption | wp_step))
        exact hq _ _ i' k'
end
end SetS
set_option Elab.async false
set_option linter.all false
set_option maxRecDepth 100000
set_option maxHeartbeats 4000000
namespace SetS
open PySem PySem.Spec PyProof.Rows L2
/-! ### sorted(set): texts, any number of them -/
def tv (v : Value) : Str := match v with | .str x _ => x | _ => Str.empty
def lts (x y : Str) : Bool := decide (x.cps.toList < y.cps.toList)
def ltv (v u : Value) : Bool := lts (tv v) (tv u)
theorem swo : SrtO.Swo ltv := by
  refine ⟨fun x y h => ?_, fun x y z h1 h2 => ?_⟩
  · have a := of_decide_eq_true (p := (tv x).cps.toList < (tv y).cps.toList) h
    exact decide_eq_false (p := (tv y).cps.toList < (tv x).cps.toList) (List.lt_asymm a)
  · have a := of_decide_eq_false (p := (tv y).cps.toList < (tv x).cps.toList) h1
    have b := of_decide_eq_false (p := (tv z).cps.toList < (tv y).cps.toList) h2
    exact decide_eq_false (p := (tv z).cps.toList < (tv x).cps.toList) (List.not_lt.mpr (List.le_trans (List.not_lt.mp a) (List.not_lt.mp b)))
theorem strs_mem : ∀ {vs : List Value} {xs : List Str}, StrsAre vs xs → ∀ v ∈ vs, ∃ x t, v = Value.str x t
  | _, _, .nil, v, h => absurd h (by simp)
  | _, _, .cons x t r, v, h => by
    rcases List.mem_cons.mp h with e | h
    · exact ⟨x, t, e⟩
    · exact strs_mem r v h
theorem strs_of : ∀ {vs : List Value}, (∀ v ∈ vs, ∃ x t, v = Value.str x t) → StrsAre vs (vs.map tv)
  | [], _ => .nil
  | v :: vs, h => by
    obtain ⟨x, t, e⟩ := h v List.mem_cons_self
    subst e
    exact .cons x t (strs_of fun u hu => h u (List.mem_cons_of_mem _ hu))
theorem tv_of : ∀ {vs : List Value} {xs : List Str}, StrsAre vs xs → vs.map tv = xs
  | _, _, .nil => rfl
  | _, _, .cons x t r => congrArg (x :: ·) (tv_of r)
section
variable {P : Program} {w : World} {A : Around} {E : Value → Shared → Prop} {s : Shared}
theorem str_cmp {vs : List Value} {xs : List Str} (hI : StrsAre vs xs) : SrtO.Cmp P w A s oneType' (fun p => p.1 ∈ vs) (SrtO.lt2 ltv) := by
  intro p q m m'
  obtain ⟨a, t, e⟩ := strs_mem hI _ m
  obtain ⟨b, u, e'⟩ := strs_mem hI _ m'
  show wpAny (model P w) A (keyLt' oneType' p.1 q.1) (fun r s' => s' = s ∧ r = ltv p.1 q.1) (fun _ _ => False) s
  rw [e, e', keyLt'_oneType]
  exact oneLt_str ⟨rfl, rfl⟩
theorem sortable {a : Addr} {vs : List Value} {xs : List Str} (hI : StrsAre vs xs) (h2 : 2 ≤ vs.length) : SrtO.SortableO P w A s a vs ltv := by
  intro h' _
  refine ⟨oneType', fun Q E hq => ?_, str_cmp hI⟩
  match vs, hI, h2 with
  | v1 :: v2 :: rest, hI, _ =>
    rw [keyKind_strs hI]
    exact wpAny_pure hq
  | [], _, h => exact absurd h (by decide)
  | [v], _, h => exact absurd h (by simp)
def Rises (l : List Str) : Prop := l.Pairwise fun x y => lts y x = false
theorem rises_of {out : List Value} (h : SrtO.Srtd ltv out) : Rises (out.map tv) := List.pairwise_map.mpr h
/-- sorted(a set of texts) -/
theorem sorted {a : Addr} {L : List Str} {Q : Value → Shared → Prop} (R : Is w s.heap a L) (hh : A.handled = none) (few : L.length ≤ sizeLine)
    (hq : ∀ s' p (out : Array Value) (c : Nat) (xs : List Str), (∀ b o, s.heap.get? b = some o → s'.heap.get? b = some o) → s'.gens = s.gens → s'.os = s.os → s.heap.objs.size ≤ p → s'.heap.get? p = some (seqObj "list" out c) → StrsAre out.toList xs → xs.Perm L → Rises xs → Q (.ref p) s') :
    wpAny (model P w) A (call (.builtin "sorted") [.ref a]) Q E s := by
  obtain ⟨o, es, ep, t, r⟩ := R
  refine Calls.call_function_entry kind_sorted plain_sorted entry_sorted (args_sorted1 _) ?_; unfold Builtin.«sorted»
  refine wpAny_bind (m := checkCount "sorted" 1 1 _) (wpAny_pure (wpAny_bind (collect_set (A := A.in1) hh ⟨o, r.ob, r.ex.1, r.da⟩ r.fits (by rw [r.size]; exact r.few) r.ris r.led fun s1 vs k1 hz g1 o1 pm => ?_)))
  have hvs : ∀ v ∈ vs, ∃ x t, v = Value.str x t := fun v hv => by
    obtain ⟨e, he, q⟩ := List.mem_map.mp (pm.mem_iff.mp hv)
    obtain ⟨x, u, q1, _⟩ := r.good e he
    exact ⟨x, u, q.symm.trans q1⟩
  have hI := strs_of hvs
  have pk : (vs.map tv).Perm L := by
    have q := pm.map tv
    rw [List.map_map] at q
    exact q.trans r.keys
  have hl : vs.length ≤ sizeLine := by rw [← List.length_map (f := tv), pk.length_eq]; exact few
  refine wpAny_bind (wpAny_newList ?_ hl)
  have hoL : (s1.heap.push (seqObj "list" vs.toArray 0)).get? s1.heap.objs.size = some (seqObj "list" vs.toArray 0) := Heap.get?_push_size _ rfl
  refine wpAny_bind (wpAny_holding (wpAny_call_entry slot_list_sort ⟨_, hoL, rfl⟩ entry_list_sort (SrtO.list_sort_ord swo hoL hl (fun h2 => sortable hI h2) fun out h1 h2 => ⟨.none, rfl, ?_⟩) (args_list_sort _)))
  obtain ⟨c, hc⟩ := sortedHeap_at (vs := vs) (out := out.toArray) hoL
  have h3 : ∀ v ∈ out, ∃ x t, v = Value.str x t := fun v hv => hvs v (h2.perm.mem_iff.mp hv)
  refine wpAny_pure ⟨_, rfl, hq _ s1.heap.objs.size out.toArray c (out.map tv) (fun b u e => ?_) g1 o1 hz hc (strs_of h3) ((h2.perm.map tv).trans pk) (rises_of h1)⟩
  have q := k1 b u e
  have lt := Heap.lt_size q
  show (sortedHeap (s1.heap.push (seqObj "list" vs.toArray 0)) s1.heap.objs.size vs out.toArray).get? b = some u
  rw [sortedHeap_old (Nat.ne_of_lt lt) (by rw [size_push']; exact Nat.lt_succ_of_lt lt)]
  exact Heap.get?_push_of_some _ q
end
/-- risen lists with the same members, each once, are one -/
theorem lts_total {x y : Str} (h1 : lts x y = false) (h2 : lts y x = false) : x = y := by
  have a := List.not_lt.mp (of_decide_eq_false (p := x.cps.toList < y.cps.toList) h1)
  have b := List.not_lt.mp (of_decide_eq_false (p := y.cps.toList < x.cps.toList) h2)
  have e := List.le_antisymm b a
  cases x
  cases y
  simp only [Str.mk.injEq]
  exact Array.toList_inj.mp e
theorem rises_one : ∀ {l m : List Str}, Rises l → Rises m → l.Perm m → l = m
  | [], m, _, _, p => p.nil_eq
  | x :: l, m, h1, h2, p => by
    cases m with
    | nil => exact p.eq_nil
    | cons y m =>
      obtain ⟨a1, a2⟩ := List.pairwise_cons.mp h1
      obtain ⟨b1, b2⟩ := List.pairwise_cons.mp h2
      have e : x = y := by
        rcases List.mem_cons.mp (p.mem_iff.mp List.mem_cons_self) with e | m1
        · exact e
        · rcases List.mem_cons.mp (p.mem_iff.mpr List.mem_cons_self) with e | m2
          · exact e.symm
          · exact lts_total (b1 x m1 |> fun z => z) (a1 y m2) |> fun z => z
      subst e
      rw [rises_one a2 b2 ((List.perm_cons x).mp p)]
end SetS
namespace L2
open PySem PySem.Spec PyProof.Rows
/-- the set of texts at a -/
def SetSO (w : World) (a : Addr) (L : List Str) : HO := .ext fun h => SetS.Is w h a L
theorem setSO_new {w : World} {P : Program} {H : Hp} {h : Heap} {a : Addr} {L : List Str} (R : SetS.Is w h a L) : ObjOk P w H h a (SetSO w a L) := by
  have ⟨o, _, _, _, r⟩ := R
  exact ⟨R, ⟨o, r.ob⟩, fun h1 h2 p k => SetS.Is.keep p k⟩
theorem vals_ofS : ∀ {us : List Value} {xs : List Str}, StrsAre us xs → Vals (xs.map V.str) us
  | _, _, .nil => .nil
  | _, _, .cons x t r => .cons ⟨t, rfl⟩ (vals_ofS r)
theorem strsOf_vals : ∀ {xs : List Str} {us : List Value}, Vals (xs.map V.str) us → StrsAre us xs
  | [], _, .nil => .nil
  | x :: xs, _, .cons r t => by
    obtain ⟨k, rfl⟩ := r
    exact .cons x k (strsOf_vals t)
section
variable {X : Cx}
/-- set(xs), xs a list of texts -/
def rSetS (K : PySem.W.Frag) (w : World) : List V → Hp → VK → Prop := fun vs H Q => ∃ (l : Addr) (xs : List Str), vs = [V.ref l] ∧ SqL K H l (xs.map V.str) ∧ xs.length + 1 < scanBound ∧ ∀ (L : List Str) (a : Addr), H a = none → L.Nodup → (∀ x, x ∈ L ↔ x ∈ xs) → L.length ≤ xs.length → Q (.ref a) (upd H a (SetSO w a L))
theorem cr_setS (hc : X.calm = true) : CallR X (.type "set") (rSetS X.K X.w) := by
  intro pins s σ H vs us Q I r h
  obtain ⟨l, xs, rfl, hl, hf, q⟩ := h
  rw [Vals.ref1 r]
  obtain ⟨its, rv, pl, hz⟩ := I.list hl
  refine SetS.call_set (P := X.prog) (w := X.w) (xs := xs) (I.ok.hd hc) pl.isList (by simpa using strsOf_vals rv) hf fun h' tk R k => ?_
  have nd : (SetS.upto xs xs.length).Nodup := by
    obtain ⟨_, _, _, _, r⟩ := R
    exact r.nd
  exact ⟨.ref s.heap.objs.size, upd H s.heap.objs.size (SetSO X.w s.heap.objs.size (SetS.upto xs xs.length)), I.laid (t' := tk) k (Nat.le_refl _) (setSO_new R), rfl, q _ _ (I.hok.fresh (Nat.le_refl _)) nd (SetS.upto_all xs) (SetS.upto_len xs _)⟩
/-- sorted(a set of texts) -/
def rSortSet (w : World) : List V → Hp → VK → Prop := fun vs H Q => ∃ (a : Addr) (L : List Str), vs = [V.ref a] ∧ H a = some (SetSO w a L) ∧ L.length ≤ sizeLine ∧ ∀ (xs : List Str) (p : Addr), xs.Perm L → SetS.Rises xs → H p = none → Q (.ref p) (upd H p (.lst (xs.map V.str)))
theorem cr_sortSet (hc : X.calm = true) : CallR X (.builtin "sorted") (rSortSet X.w) := by
  intro pins s σ H vs us Q I r h
  obtain ⟨a, L, rfl, ha, hf, q⟩ := h
  have R : SetS.Is X.w s.heap a L := (I.hok a _ ha).1
  rw [Vals.ref1 r]
  refine SetS.sorted (P := X.prog) R (I.ok.hd hc) hf fun s' p out c xs k g o hp hg hS pm up => ?_
  have hlen : (xs.map V.str).length ≤ sizeLine := by rw [List.length_map, pm.length_eq]; exact hf
  have hn : H p = none := I.hok.fresh hp
  have J : Inv X pins σ (upd H p (.lst (xs.map V.str))) { s with heap := s'.heap, gens := s'.gens, drawn := s'.drawn, toks := s'.toks } :=
    I.call (ch := []) (Un.laid k hp hn) (I.hok.laid k hp ⟨hlen, out.toList, c, vals_ofS hS, hg⟩) (by rw [g]; exact I.bare) fun _ z => nomatch z
  have e : s' = { s with heap := s'.heap, gens := s'.gens, drawn := s'.drawn, toks := s'.toks } := by
    cases s'; cases s; cases o; rfl
  rw [e]
  exact ⟨.ref p, _, J, rfl, q xs p pm up hn⟩
end
end L2
set_option Elab.async false
set_option linter.all false
set_option maxRecDepth 100000
set_option maxHeartbeats 4000000
namespace K1
open PySem PySem.Spec PyProof.Rows L2
def topS (i : Nat) : Stmt := PySem.Challenge.pw_termyard_k10_terms_seen.main.body.getD i (.Pass ⟨0, 0, 0, 0⟩)
abbrev sBegun : Stmt := topS 45
abbrev sMixed : Stmt := topS 46
abbrev sTake : Stmt := topS 47
abbrev sPick : Stmt := topS 48
/-- the state's dict -/
def stK (g c : Addr) (r t : Int) : List (Key × V) := [(.inr "great", .ref g), (.inr "cells", .ref c), (.inr "rest", .int r), (.inr "turn", .int t)]
/-- what is drawn from stands at d: the great cells at g, all cells at c; at most t numbers were mixed -/
structure Gen (d g c : Addr) (t : Nat) (H : Hp) : Prop where
  ne : c ≠ g
  ex : ∃ (gs cs : List Int) (r : Int) (u : Nat), H d = some (.dK (stK g c r u)) ∧ H g = some (.lst (gs.map V.int)) ∧ H c = some (.lst (cs.map V.int)) ∧ u ≤ t
/-- all but d and g stand as they did -/
def Kp (d g : Addr) (H H' : Hp) : Prop := ∀ b o, b ≠ d → b ≠ g → H b = some o → H' b = some o
theorem Kp.refl {d g : Addr} {H : Hp} : Kp d g H H := fun _ _ _ _ h => h
theorem Kp.trans {d g : Addr} {H H1 H2 : Hp} (a : Kp d g H H1) (b : Kp d g H1 H2) : Kp d g H H2 := fun x o h1 h2 e => b x o h1 h2 (a x o h1 h2 e)
theorem Kp.of {d g : Addr} {H H1 : Hp} (a : Same H H1) : Kp d g H H1 := fun x o _ _ e => a x o e
theorem Kp.upd {d g p : Addr} {o : HO} {H H1 : Hp} (a : Kp d g H H1) (h : H p = none ∨ p = d ∨ p = g) : Kp d g H (upd H1 p o) := fun x u h1 h2 e => by
  by_cases hx : x = p
  · subst hx
    rcases h with h | h | h
    · rw [h] at e
      cases e
    · exact absurd h h1
    · exact absurd h h2
  · rw [upd_ne hx]
    exact a x u h1 h2 e
theorem Gen.mono {d g c : Addr} {t t' : Nat} {H : Hp} (G : Gen d g c t H) (h : t ≤ t') : Gen d g c t' H := by
  obtain ⟨n, gs, cs, r, u, e1, e2, e3, e4⟩ := G
  exact ⟨n, gs, cs, r, u, e1, e2, e3, Nat.le_trans e4 h⟩
theorem Gen.same {d g c : Addr} {t : Nat} {H H' : Hp} (G : Gen d g c t H) (s : Same H H') : Gen d g c t H' := by
  obtain ⟨n, gs, cs, r, u, e1, e2, e3, e4⟩ := G
  exact ⟨n, gs, cs, r, u, s _ _ e1, s _ _ e2, s _ _ e3, e4⟩
theorem Same.new {H H1 : Hp} {p : Addr} {o : HO} (a : Same H H1) (h : H1 p = none) : Same H (upd H1 p o) := fun x u e => by
  rw [upd_ne (ne_of_none (a x u e) h)]
  exact a x u e
theorem Gen.new {d g c p : Addr} {o : HO} {t : Nat} {H : Hp} (G : Gen d g c t H) (h : H p = none) : Gen d g c t (upd H p o) := G.same (Same.new (Same.refl H) h)
theorem Gen.free {d g c : Addr} {t t' : Nat} {H H' : Hp} (G : Gen d g c t H) (G' : Gen d g c t' H') (k : Kp d g H H') {p : Addr} (h : H' p = none) : H p = none := by
  cases q : H p with
  | none => rfl
  | some o =>
    obtain ⟨_, _, _, _, _, e1, e2, _⟩ := G'
    have h1 : p ≠ d := fun z => by rw [z, e1] at h; cases h
    have h2 : p ≠ g := fun z => by rw [z, e2] at h; cases h
    rw [k p o h1 h2 q] at h
    cases h

theorem pow10_18 : CPow 10 18 := ⟨by decide, by decide, by decide⟩
theorem stK_merge (g c : Addr) : mergeK [] (stK g c 0 0) = stK g c 0 0 := by
  rfl
def spBegun (K : PySem.W.Frag) : Sp := fun vs H Q _ => ∃ (a : Addr) (ns : List Int), vs = [.ref a] ∧ SqL K H a (ns.map V.int) ∧ ns.length ≤ 63 ∧
  ∀ (d g c : Addr) (H' : Hp), Gen d g c 0 H' → Same H H' → H d = none → H g = none → Q (.ref d) H'
def spMixed : Sp := fun vs H Q _ => ∃ (d g c : Addr) (t : Nat), vs = [.ref d] ∧ Gen d g c t H ∧ t < 2 ^ 30 ∧
  ∀ (v : Int) (H' : Hp), Gen d g c (t + 1) H' → Kp d g H H' → Q (.int v) H'
def spTake : Sp := fun vs H Q _ => ∃ (d g c : Addr) (t : Nat) (n : Int), vs = [.ref d, .int n] ∧ Gen d g c t H ∧ t < 2 ^ 30 ∧ 0 < n ∧ n < 2 ^ 60 ∧
  ∀ (v : Int) (H' : Hp), 0 ≤ v → v < n → Gen d g c (t + 1) H' → Kp d g H H' → Q (.int v) H'
/-- the built-ins that the text leaves alone -/
structure Txt (mg : Str → Option Value) : Prop where
  list : mg "list" = none
section
variable {P : Program} {w : World} {K : PySem.W.Frag} {mg : Str → Option Value} {base : Heap}
theorem scBegun : FnScope ["_law_script", "_law_wide_here", "_law_cell"] ["_law_script"] (defScope sBegun) := ⟨rfl, rfl, rfl, by decide +kernel, rfl, by decide +kernel, by decide +kernel⟩
theorem ok_begun {f : Addr} {fd : FuncData} (F : Fun K "_law_begun" "_law_begun" sBegun f fd) (T : Txt mg) : FnOk P w K mg base CX0 1 f fd ["_law_script"] (spBegun K) := by
  refine F.ok scBegun (fun vs H Q E h => ?_) (fun cdv A outer s H vs Q E hr h => ?_)
  · obtain ⟨a, ns, rfl, _⟩ := h
    rfl
  · obtain ⟨a, ns, rfl, hS, hl, k⟩ := h
    refine ⟨_, pss_cons (ps_setLc (i := 1) (own := [("_law_cell", 2)]) (g := gName 2) rfl scBegun.nd rfl rfl (sw_true rfl rfl rfl (by decide +kernel)) (pi_list (pv 0)) (blkOk_by (N := ["_law_script", "_law_wide_here", "_law_cell"]) (sc := defScope sBegun) (by decide +kernel))
        (fun _ _ _ _ _ => pg_name (i := 2) scBegun.nd rfl (Or.inl rfl)) (fun _ _ _ _ _ => pts_one (pt_cmpR op_ge (pv 2) (pe_op op_pow pe_int pe_int) (nomark _))) (fun _ _ _ _ _ => pe_op op_sub (pv 2) (pe_op op_pow pe_int pe_int)))
      (pss_one (ps_ret (pe_disp (pps_cons pe_str (pv 1) (pps_cons pe_str (pe_callTy call_list_of (by rfl) T.list (by decide +kernel) (pa_cons (pv 0) pa_nil)) (pps_cons pe_str pe_int (pps_cons pe_str pe_int pps_nil)))) (by rfl) (by rfl) (fun z => by cases z) (by decide)))), ?_⟩
    refine ⟨_, rfl, a, rfl, ⟨_, hS⟩, fun D hD => lc_list (K := K) (a := a) (xs := ns.map V.int) (fun i H' => ∃ gs : List Int, Same H H' ∧ H' D = some (.lst (gs.map V.int)) ∧ gs.length ≤ i)
      ⟨[], Same.new (Same.refl H) hD, upd_same, Nat.le_refl _⟩ (fun i H' _ ⟨_, s1, _⟩ => s1.seq hS) ?_ ?_⟩
    · rintro i x H' hi ⟨gs, s1, e1, l1⟩
      have hil := (List.getElem?_eq_some_iff.mp hi).1
      rw [List.length_map] at hil
      obtain ⟨z, rfl⟩ : ∃ z, x = V.int z := by
        rw [List.getElem?_map] at hi
        cases e : ns[i]? with
        | none => rw [e] at hi; cases hi
        | some z => rw [e] at hi; exact ⟨z, (Option.some.inj hi).symm⟩
      refine ⟨rfl, ?_⟩
      refine ⟨_, rfl, _, _, rfl, rfl, pow10_18, _, _, rfl, rfl, _, rfl, ?_⟩
      refine ite2 (fun _ => ?_) (fun _ => ?_)
      · refine ⟨_, rfl, _, _, rfl, rfl, pow10_18, _, _, rfl, rfl, gs.map V.int, e1, (by rw [List.length_map, sizeLine_eq]; omega), gs ++ [z - 10 ^ Int.toNat 18], ?_, ?_, ?_⟩
        · exact fun b o e => by
            rw [upd_ne (fun z => by rw [z, hD] at e; cases e)]
            exact s1 b o e
        · rw [upd_same, List.map_append]
          rfl
        · rw [List.length_append]
          exact Nat.succ_le_succ l1
      · exact ⟨gs, s1, e1, Nat.le_succ_of_le l1⟩
    · rintro H' ⟨gs, s1, e1, l1⟩
      intro p hp
      refine ⟨_, rfl, ⟨_, rfl, a, _, rfl, .inl ((Same.new s1 hp).seq hS), fun l hl => ⟨?_, stK D l 0 0, rfl, (by show 4 ≤ 15; decide), ?_⟩⟩⟩
      · rw [upd_ne (fun z => by rw [z, upd_same] at hl; cases hl), upd_same]
      · rw [stK_merge]
        have npD : D ≠ p := ne_of_none e1 hp
        have nlp : p ≠ l := fun z => by rw [z, upd_same] at hl; cases hl
        have nlD : l ≠ D := fun z => by rw [z, upd_ne npD, e1] at hl; cases hl
        have hl' : H' l = none := by rw [upd_ne nlp.symm] at hl; exact hl
        have s2 : Same H (upd (upd (upd H' p (.dK [])) l (.lst (ns.map V.int))) p (.dK (stK D l 0 0))) := fun b o e => by
          have e' := s1 b o e
          rw [upd_ne (ne_of_none e' hp), upd_ne (ne_of_none e' hl'), upd_ne (ne_of_none e' hp)]
          exact e'
        refine k p D l _ ⟨nlD, gs, ns, 0, 0, upd_same, ?_, ?_, Nat.le_refl _⟩ s2 (Same.free s1 hp) hD
        · rw [upd_ne npD, upd_ne nlD.symm, upd_ne npD]
          exact e1
        · rw [upd_ne nlp.symm, upd_same]

def primes : List Int := [2147483629, 2147483587, 2147483579, 2147483563, 2147483549, 2147483543]
theorem primes_ok : ∀ z ∈ primes, 0 < z ∧ z < 2147483648 := by decide
theorem map_at {ns : List Int} {i : Nat} {x : V} (hi : (ns.map V.int)[i]? = some x) : ∃ z, ns[i]? = some z ∧ x = V.int z := by
  rw [List.getElem?_map] at hi
  cases e : ns[i]? with
  | none => rw [e] at hi; cases hi
  | some z => rw [e] at hi; exact ⟨z, rfl, (Option.some.inj hi).symm⟩
theorem stK_turn (g c : Addr) (r t : Int) : valV (stK g c r t) (Sum.inr "turn" : Key) = some (.int t) := rfl
theorem stK_rest (g c : Addr) (r t : Int) : valV (stK g c r t) (Sum.inr "rest" : Key) = some (.int r) := rfl
theorem stK_great (g c : Addr) (r t : Int) : valV (stK g c r t) (Sum.inr "great" : Key) = some (.ref g) := rfl
theorem stK_cells (g c : Addr) (r t : Int) : valV (stK g c r t) (Sum.inr "cells" : Key) = some (.ref c) := rfl
theorem stK_turn' (g c : Addr) (r t y : Int) : putK (stK g c r t) (Sum.inr "turn" : Key) (.int y) = stK g c r y := rfl
theorem stK_rest' (g c : Addr) (r t y : Int) : putK (stK g c r t) (Sum.inr "rest" : Key) (.int y) = stK g c y t := rfl
theorem scMixed : FnScope ["_law_state", "_law_turn", "_law_found", "_law_prime", "_law_blend", "_law_cell"] ["_law_state"] (defScope sMixed) := ⟨rfl, rfl, rfl, by decide +kernel, rfl, by decide +kernel, by decide +kernel⟩
theorem ok_mixed {f : Addr} {fd : FuncData} (F : Fun K "_law_mixed" "_law_mixed" sMixed f fd) (T : Txt mg) : FnOk P w K mg base CX0 1 f fd ["_law_state"] spMixed := by
  refine F.ok scMixed (fun vs H Q E h => ?_) (fun cdv A outer s H vs Q E hr h => ?_)
  · obtain ⟨d, g, c, t, rfl, _⟩ := h
    rfl
  · obtain ⟨d, g, c, t, rfl, G, ht, k⟩ := h
    obtain ⟨ncg, gs, cs, r, u, e1, e2, e3, hu⟩ := G
    have hu' := hu_of hr
    refine ⟨_, pss_cons (ps_set (i := 1) scMixed.nd rfl (Or.inl rfl) (pe_op op_add (pe_dget hu' (pv 0) pe_str (fun _ _ => rfl)) pe_int))
      (pss_cons (ps_dput hu' (pv 0) pe_str (pv 1) rfl)
      (pss_cons (ps_set (i := 2) scMixed.nd rfl (Or.inl rfl) pe_int)
      (pss_cons (ps_for PassesOwn.never rfl (pi_list (pe_lst (pa_cons pe_int (pa_cons pe_int (pa_cons pe_int (pa_cons pe_int (pa_cons pe_int (pa_cons pe_int pa_nil)))))))) (pg_name (i := 3) scMixed.nd rfl (Or.inl rfl))
        (pss_cons (ps_set (i := 4) scMixed.nd rfl (Or.inl rfl) (pe_op op_add (pe_op op_mul pe_int (pv 1)) (pe_op op_fdiv (pv 3) pe_int)))
        (pss_cons (ps_for PassesOwn.never rfl (pi_list (pe_dget hu' (pv 0) pe_str (fun _ _ => rfl))) (pg_name (i := 5) scMixed.nd rfl (Or.inl rfl))
          (pss_one (ps_set (i := 4) scMixed.nd rfl (Or.inl rfl) (pe_op op_mod (pe_op op_add (pe_op op_mul (pv 4) pe_int) (pv 5)) (pv 3)))))
        (pss_one (ps_set (i := 2) scMixed.nd rfl (Or.inl rfl) (pe_op op_add (pe_op op_mul (pv 2) pe_int) (pe_op op_mod (pe_op op_pow (pv 4) pe_int) (pv 3))))))))
      (pss_one (ps_ret (pv 2)))))), ?_⟩
    refine ⟨_, rfl, d, _, rfl, DGet.k (k := Sum.inr "turn") e1, _, _, rfl, rfl, ?_⟩
    refine ⟨_, rfl, _, rfl, d, _, rfl, DPut.k (k := Sum.inr "turn") e1 (by show 4 < sizeLine; decide), ?_⟩
    rw [stK_turn']
    refine ⟨(by show 6 ≤ sizeLine; decide), fun p hp => ?_⟩
    have hdg : g ≠ d := ne_of e2 e1 (by intro z; cases z)
    have hdc : c ≠ d := ne_of e3 e1 (by intro z; cases z)
    have fin : ∀ (v : Int) (H' : Hp), Same (upd (upd H d (.dK (stK g c r (u + 1)))) p (.lst (primes.map V.int))) H' → Q (.int v) H' := fun v H' sm => by
      have npd : ∀ b o, upd H d (.dK (stK g c r (u + 1))) b = some o → H' b = some o := fun b o e => sm b o (by rw [upd_ne (ne_of_none e hp)]; exact e)
      refine k v H' ⟨ncg, gs, cs, r, u + 1, npd _ _ upd_same, npd _ _ (by rw [upd_ne hdg]; exact e2), npd _ _ (by rw [upd_ne hdc]; exact e3), Nat.succ_le_succ hu⟩ fun b o h1 h2 e => npd b o (by rw [upd_ne h1]; exact e)
    refine ⟨p, rfl, ⟨_, SqL.of (xs := primes.map V.int) upd_same⟩, for_list (K := K) (a := p) (xs := primes.map V.int)
      (fun i σ H' => ∃ (fnd : Int) (v3 v4 v5 : Option V), σ = [some (.ref d), some (.int (u + 1)), some (.int fnd), v3, v4, v5] ∧ Same (upd (upd H d (.dK (stK g c r (u + 1)))) p (.lst (primes.map V.int))) H')
      ⟨0, none, none, none, rfl, Same.refl _⟩ (fun i σ H' _ ⟨_, _, _, _, _, sm⟩ => sm.seq (SqL.of upd_same)) ?_ ?_⟩
    · rintro i x σ H' hi ⟨fnd, v3, v4, v5, rfl, sm⟩
      obtain ⟨pr, hpr, rfl⟩ := map_at hi
      obtain ⟨p0, p1⟩ := primes_ok pr (List.mem_of_getElem? hpr)
      have npd : ∀ b o, upd H d (.dK (stK g c r (u + 1))) b = some o → H' b = some o := fun b o e => sm b o (by rw [upd_ne (ne_of_none e hp)]; exact e)
      refine ⟨_, rfl, _, _, rfl, rfl, .inl (by constructor <;> decide), _, rfl, _, _, rfl, rfl, ⟨by decide, by decide⟩, _, _, rfl, rfl, ?_⟩
      refine ⟨_, rfl, d, _, rfl, DGet.k (k := Sum.inr "cells") (npd _ _ upd_same), c, rfl, ⟨_, SqL.of (xs := cs.map V.int) (npd _ _ (by rw [upd_ne hdc]; exact e3))⟩, for_list (K := K) (a := c) (xs := cs.map V.int)
        (fun j σ H2 => ∃ (b : Int) (v5 : Option V), σ = [some (.ref d), some (.int (u + 1)), some (.int fnd), some (.int pr), some (.int b), v5] ∧ H2 = H' ∧ 0 ≤ b ∧ b < 2 ^ 50)
        ⟨_, _, rfl, rfl, ?_, ?_⟩ (fun j σ H2 _ ⟨_, _, _, z, _⟩ => by rw [z]; exact SqL.of (npd _ _ (by rw [upd_ne hdc]; exact e3))) ?_ ?_⟩
      · omega
      · omega
      · rintro j y σ H2 hj ⟨b, v5', rfl, rfl, b0, b1⟩
        obtain ⟨cell, _, rfl⟩ := map_at hj
        refine ⟨_, rfl, _, _, rfl, rfl, .inr (by constructor <;> decide), _, rfl, _, _, rfl, rfl, _, rfl, _, _, rfl, rfl, p0, ?_⟩
        exact ⟨_, _, rfl, rfl, Int.emod_nonneg _ (by omega), Int.lt_trans (Int.emod_lt_of_pos _ p0) (by omega)⟩
      · rintro σ H2 ⟨b, v5', rfl, rfl, b0, b1⟩
        refine ⟨_, rfl, _, _, rfl, rfl, .inr (by constructor <;> decide), _, rfl, _, _, rfl, rfl, ⟨by decide, by decide, by omega⟩, _, rfl, _, _, rfl, rfl, p0, _, _, rfl, rfl, ?_⟩
        exact ⟨_, _, _, _, rfl, sm⟩
    · rintro σ H' ⟨fnd, v3, v4, v5, rfl, sm⟩
      exact ⟨_, rfl, fin _ _ sm⟩

theorem dp_ints (K : PySem.W.Frag) (H : Hp) : ∀ gs : List Int, DpAll K H (gs.map V.int) (gs.map PyData.int)
  | [] => .nil
  | z :: r => .cons (.int z) (dp_ints K H r)
theorem lay_ints : ∀ gs : List Int, PyData.canLayAll0 (gs.map PyData.int) = true
  | [] => rfl
  | z :: r => by
    have ih := lay_ints r
    simpa [PyData.canLayAll0, PyData.canLay0] using ih
theorem depth_ints : ∀ gs : List Int, PyData.depthAll (gs.map PyData.int) ≤ 1
  | [] => by simp [PyData.depthAll]
  | z :: r => by
    have ih := depth_ints r
    simp [PyData.depthAll, PyData.depth] at ih ⊢
    omega
theorem shaped_ints (gs : List Int) : SeqAt.shaped (.list (gs.map PyData.int)) = true := by
  unfold SeqAt.shaped
  rw [Bool.and_eq_true]
  refine ⟨?_, ?_⟩
  · simpa [PyData.canLay0] using lay_ints gs
  · have := depth_ints gs
    simp [PyData.depth]
    omega

theorem seq0 (n : Nat) : seqIndex? 0 (n + 1) = some 0 := by
  unfold seqIndex?
  simp
theorem eqv_ints_nil (gs : List Int) : PyData.eqv (.list (gs.map PyData.int)) (.list []) = gs.isEmpty := by
  cases gs <;> rfl
theorem scTake : FnScope ["_law_state", "_law_size", "_law_found"] ["_law_state", "_law_size"] (defScope sTake) := ⟨rfl, rfl, rfl, by decide +kernel, rfl, by decide +kernel, by decide +kernel⟩
theorem ok_take {f fM : Addr} {fd fdM : FuncData} (F : Fun K "_law_take" "_law_take" sTake f fd) (FM : Fun K "_law_mixed" "_law_mixed" sMixed fM fdM) (bM : Binds K fdM ["_law_state"] []) (gM : mg "_law_mixed" = some (.ref fM)) (kM : PySem.W.keepIn K (.ref fM) = true) (T : Txt mg) : FnOk P w K mg base CX0 2 f fd ["_law_state", "_law_size"] spTake := by
  have GM : FnOk P w K mg base CX0 1 fM fdM ["_law_state"] spMixed := ok_mixed FM T
  refine F.ok scTake (fun vs H Q E h => ?_) (fun cdv A outer s H vs Q E hr h => ?_)
  · obtain ⟨d, g, c, t, n, rfl, _⟩ := h
    rfl
  · obtain ⟨d, g, c, t, n, rfl, G, ht, n0, n1, k⟩ := h
    obtain ⟨ncg, gs, cs, r, u, e1, e2, e3, hu⟩ := id G
    have hu' := hu_of hr
    refine ⟨_, pss_cons (ps_if (pt_cmpR op_eq (pe_dget hu' (pv 0) pe_str (fun _ _ => rfl)) pe_int (nomark _))
        (pss_one (ps_dput hu' (pv 0) pe_str (pe_ifExp (pt_cmpR (op_neD hr.units) (pe_dget hu' (pv 0) pe_str (fun _ _ => rfl)) (pe_lst pa_nil) (nomark _)) (pe_bm PySem.F.plainAttrs_list PySem.F.slot_list_pop PySem.F.type_list_pop mt_popAt (pe_dget hu' (pv 0) pe_str (fun _ _ => rfl)) (pa_cons pe_int pa_nil)) (pe_call GM hr rfl gM kM bM .nil pass0 (pa_cons (pv 0) pa_nil))) rfl)) pss_nil)
      (pss_cons (ps_set (i := 2) scTake.nd rfl (Or.inl rfl) (pe_op op_mod (pe_dget hu' (pv 0) pe_str (fun _ _ => rfl)) (pv 1)))
      (pss_cons (ps_dput hu' (pv 0) pe_str (pe_op op_fdivW (pe_dget hu' (pv 0) pe_str (fun _ _ => rfl)) (pv 1)) rfl)
      (pss_one (ps_ret (pv 2))))), ?_⟩
    -- what stands behind the if
    have last : ∀ (t' : Nat) (H' : Hp), t' ≤ t + 1 → Gen d g c t' H' → Kp d g H H' → ∀ σ : L2.St, σ = [some (.ref d), some (.int n), none] → tSeq (tAsg (tOp (rI (fun _ j => 0 < j) fun i j => .int (i % j)) (tDGet (tVar 0) (tC (.str "rest"))) (tVar 1)) (gName 2)) (tSeq (sDPut (tVar 0) (tC (.str "rest")) (tOp (rI CDivW fun i j => .int (i / j)) (tDGet (tVar 0) (tC (.str "rest"))) (tVar 1))) (tRet (tVar 2))) { nx := fun _ H' => Q .non H', rt := Q } σ H' := by
      rintro t' H' ht' ⟨ncg, gs, cs, r, u, e1, e2, e3, hu⟩ kp σ rfl
      refine ⟨_, rfl, d, _, rfl, DGet.k (k := Sum.inr "rest") e1, _, rfl, _, _, rfl, rfl, n0, ?_⟩
      refine ⟨_, rfl, d, _, rfl, DGet.k (k := Sum.inr "rest") e1, _, rfl, _, _, rfl, rfl, wide_div (b := 60) n0 (by omega) (by decide) (by decide), _, rfl, d, _, rfl, DPut.k (k := Sum.inr "rest") e1 (by show 4 < sizeLine; decide), ?_⟩
      rw [stK_rest']
      have hdg : g ≠ d := ne_of e2 e1 (by intro z; cases z)
      have hdc : c ≠ d := ne_of e3 e1 (by intro z; cases z)
      refine ⟨_, rfl, k _ _ (Int.emod_nonneg _ (by omega)) (Int.emod_lt_of_pos _ n0) ⟨ncg, gs, cs, _, u, upd_same, by rw [upd_ne hdg]; exact e2, by rw [upd_ne hdc]; exact e3, Nat.le_trans hu ht'⟩ (kp.upd (.inr (.inl rfl)))⟩
    refine ⟨_, rfl, d, _, rfl, DGet.k (k := Sum.inr "rest") e1, rfl, _, rfl, ?_⟩
    have hn2 : ∀ p, H p = none → ∀ o, Same H (upd H p o) := fun p hp o => Same.new (Same.refl H) hp
    refine ite2 (fun _ => ?_) (fun hc => ?_)
    · refine ⟨_, rfl, d, _, rfl, DGet.k (k := Sum.inr "great") e1, (by show 0 ≤ sizeLine; decide), fun p hp => ⟨.list (gs.map PyData.int), .list [], Dp.lst (SqL.of (hn2 p hp _ _ _ e2)) (dp_ints _ _ gs), Dp.lst (SqL.of upd_same) .nil, shaped_ints gs, by decide, _, rfl, ?_⟩⟩
      have s1 := hn2 p hp (.lst [])
      rw [eqv_ints_nil]
      cases gs with
      | nil =>
        refine iteF ⟨_, rfl, d, g, c, t, rfl, G.same s1, ht, fun v H2 G2 k2 => ?_⟩
        obtain ⟨_, gs2, cs2, r2, u2, a1, a2, a3, a4⟩ := id G2
        have hdg : g ≠ d := ne_of a2 a1 (by intro z; cases z)
        have hdc : c ≠ d := ne_of a3 a1 (by intro z; cases z)
        refine ⟨_, rfl, d, _, rfl, DPut.k (k := Sum.inr "rest") a1 (by show 4 < sizeLine; decide), ?_⟩
        rw [stK_rest']
        exact last (t + 1) _ (Nat.le_refl _) ⟨ncg, gs2, cs2, _, u2, upd_same, by rw [upd_ne hdg]; exact a2, by rw [upd_ne hdc]; exact a3, a4⟩ (((Kp.of s1).trans k2).upd (.inr (.inl rfl))) _ rfl
      | cons z gs =>
        refine iteT ?_
        have hdg : g ≠ d := ne_of e2 e1 (by intro z; cases z)
        have hdc : c ≠ d := ne_of e3 e1 (by intro z; cases z)
        refine ⟨_, rfl, d, _, rfl, DGet.k (k := Sum.inr "great") (s1 _ _ e1), .inl ⟨rfl, _, SqL.of (s1 _ _ e2)⟩, g, _, 0, 0, .int z, rfl, rfl, s1 _ _ e2, by decide, by decide, seq0 _, rfl, ?_⟩
        refine ⟨_, rfl, d, _, rfl, DPut.k (k := Sum.inr "rest") (by rw [upd_ne hdg.symm]; exact s1 _ _ e1) (by show 4 < sizeLine; decide), ?_⟩
        rw [stK_rest']
        exact last t _ (Nat.le_succ _) ⟨ncg, gs, cs, _, u, upd_same, by rw [upd_ne hdg, upd_same]; rfl, by rw [upd_ne hdc, upd_ne ncg]; exact s1 _ _ e3, hu⟩ (((Kp.of s1).upd (.inr (.inr rfl))).upd (.inr (.inl rfl))) _ rfl
    · exact last t H (Nat.le_succ _) G (Kp.of (Same.refl H)) _ rfl
end
end K1
set_option Elab.async false
set_option linter.all false
set_option maxRecDepth 100000
set_option maxHeartbeats 4000000
namespace K1
open PySem PySem.Spec PyProof.Rows L2
def isLow (c : Nat) : Bool := decide (97 ≤ c ∧ c ≤ 122)
def nameB (w : Str) : Bool := decide (1 ≤ w.length ∧ w.length ≤ 8) && w.cps.toList.all isLow
def ownW : List Str := Txt.split (Str.ofString "stay none turn any then else not often part parts plan row heap pair plain fill same" ++ Str.ofString " over tell try rest is one some lift run lead skip low high low") " "
theorem ownW_ok : ∀ w ∈ ownW, nameB w = true := by decide +kernel
theorem ownW_len : 0 < ownW.length ∧ ownW.length ≤ 40 := by decide +kernel
abbrev abc : Str := Str.ofString "abcdefghijklmnopqrstuvwxyz"
theorem abc_l : abc.cps.toList = (List.range 26).map (· + 97) := by decide +kernel
theorem abc_len : abc.length = 26 := by decide +kernel
theorem abc_low : ∀ c ∈ abc.cps.toList, isLow c = true := by decide +kernel
theorem len_toList (w : Str) : w.cps.toList.length = w.length := by
  simp [Str.length]
theorem app_l (a b : Str) : (a ++ b).cps.toList = a.cps.toList ++ b.cps.toList := by
  show (a.cps ++ b.cps).toList = _
  simp
theorem ext_l {a b : Str} (h : a.cps.toList = b.cps.toList) : a = b := by
  cases a with
  | mk x =>
    cases b with
    | mk y =>
      have : x = y := by
        have h' : x.toList = y.toList := h
        exact Array.toList_inj.mp h'
      rw [this]
/-- a word made otherwise: its first six letters, z, one more -/
def cand (w : Str) (c : Nat) : Str := (cutS w none (some 6) ++ Str.ofString "z") ++ ⟨#[c]⟩
theorem z_l : (Str.ofString "z").cps.toList = [122] := by decide +kernel
theorem cand_l (w : Str) (c : Nat) : (cand w c).cps.toList = w.cps.toList.take 6 ++ [122, c] := by
  unfold cand
  rw [app_l, app_l, z_l]
  have h : (cutS w none (some 6)).cps.toList = w.cps.toList.take 6 := by
    have e1 : HT.sIx w.length 0 none = 0 := rfl
    have e2 : HT.sIx w.length w.length (some 6) = min 6 w.length := by
      simp [HT.sIx]
    show ((w.cps.toList.drop (HT.sIx w.length 0 none)).take (HT.sIx w.length w.length (some 6) - HT.sIx w.length 0 none)).toArray.toList = _
    rw [e1, e2]
    simp only [List.drop_zero, Nat.sub_zero]
    rw [← len_toList w]
    by_cases hl : 6 ≤ w.cps.toList.length
    · rw [Nat.min_eq_left hl]
    · rw [Nat.min_eq_right (by omega), List.take_of_length_le (Nat.le_refl _), List.take_of_length_le (by omega)]
  rw [h]
  simp
theorem cand_inj {w : Str} {c c' : Nat} (h : cand w c = cand w c') : c = c' := by
  have e : (cand w c).cps.toList = (cand w c').cps.toList := by rw [h]
  rw [cand_l, cand_l] at e
  have e2 := List.append_cancel_left e
  simpa using e2
theorem cand_name {w : Str} {c : Nat} (h : nameB w = true) (hc : isLow c = true) : nameB (cand w c) = true := by
  unfold nameB at h ⊢
  rw [Bool.and_eq_true] at h ⊢
  obtain ⟨h1, h2⟩ := h
  have el := len_toList (cand w c)
  rw [cand_l] at el ⊢
  refine ⟨?_, ?_⟩
  · rw [decide_eq_true_iff, ← el]
    simp
    omega
  · rw [List.all_append, Bool.and_eq_true]
    refine ⟨?_, ?_⟩
    · rw [List.all_eq_true] at h2 ⊢
      exact fun x hx => h2 x (List.mem_of_mem_take hx)
    · show (isLow 122 && (isLow c && true)) = true
      rw [hc]
      rfl
def nosuch : Str := Str.ofString "nosuchs"
/-- a name, and not that one -/
def nmB (w : Str) : Bool := nameB w && !decide (w = nosuch)
theorem nm_name {w : Str} (h : nmB w = true) : nameB w = true := (Bool.and_eq_true_iff.mp h).1
theorem nm_no {w : Str} (h : nmB w = true) : w ≠ nosuch := by
  have := (Bool.and_eq_true_iff.mp h).2
  simpa using this
theorem nm_of {w : Str} (h : nameB w = true) (n : w ≠ nosuch) : nmB w = true := by
  unfold nmB
  rw [h, decide_eq_false n]
  rfl
theorem ownW_nm : ∀ w ∈ ownW, nmB w = true := by decide +kernel
theorem nosuch_l : nosuch.cps.toList = [110, 111, 115, 117, 99, 104, 115] := by decide +kernel
theorem cand_nm {w : Str} {c : Nat} (h : nmB w = true) (hc : isLow c = true) : nmB (cand w c) = true := by
  refine nm_of (cand_name (nm_name h) hc) fun z => ?_
  have e : (cand w c).cps.toList = nosuch.cps.toList := by rw [z]
  rw [cand_l, nosuch_l] at e
  have e2 := congrArg (fun l => l.reverse[1]?) e
  simp at e2
/-- of more than there are in the list, unlike ones, one is not in it -/
theorem out_of {α : Type} [DecidableEq α] : ∀ (l m : List α), l.Nodup → (∀ x ∈ l, x ∈ m) → l.length ≤ m.length
  | [], m, _, _ => Nat.zero_le _
  | a :: l, m, hn, hs => by
    rw [List.nodup_cons] at hn
    have ha : a ∈ m := hs a List.mem_cons_self
    have ih := out_of l (m.erase a) hn.2 fun x hx => by
      have hx' := hs x (List.mem_cons_of_mem _ hx)
      have hne : x ≠ a := fun e => hn.1 (e ▸ hx)
      exact (List.mem_erase_of_ne hne).mpr hx'
    rw [List.length_erase_of_mem ha] at ih
    have hp : 0 < m.length := List.length_pos_of_mem ha
    show l.length + 1 ≤ m.length
    omega
theorem nodup_map_inj {α β : Type} {f : α → β} (hf : ∀ a b, f a = f b → a = b) : ∀ {l : List α}, l.Nodup → (l.map f).Nodup
  | [], _ => List.nodup_nil
  | a :: l, h => by
    rw [List.nodup_cons] at h
    rw [List.map_cons, List.nodup_cons]
    refine ⟨fun hm => ?_, nodup_map_inj hf h.2⟩
    obtain ⟨b, hb, e⟩ := List.mem_map.mp hm
    exact h.1 (hf _ _ e ▸ hb)
theorem abc_nodup : abc.cps.toList.Nodup := by decide +kernel
theorem fresh (w : Str) (ws : List Str) (h : ws.length < 26) : ∃ r rest, ((abc.cps.toList.map (cand w)).filter fun x => decide (x ∉ ws)) = r :: rest := by
  cases e : ((abc.cps.toList.map (cand w)).filter fun x => decide (x ∉ ws)) with
  | cons r rest => exact ⟨r, rest, rfl⟩
  | nil =>
    rw [List.filter_eq_nil_iff] at e
    have := out_of (abc.cps.toList.map (cand w)) ws (nodup_map_inj (fun a b => cand_inj) abc_nodup) fun x hx => by
      have := e x hx
      simpa using this
    rw [List.length_map, len_toList, abc_len] at this
    omega
theorem inV_str (x : Str) : ∀ ws : List Str, inV (.str x) (ws.map V.str) = decide (x ∈ ws)
  | [] => by simp [inV]
  | y :: r => by
    have ih := inV_str x r
    unfold inV at ih ⊢
    rw [List.map_cons, List.any_cons, ih]
    have e : eqV (.str y) (.str x) = decide (y = x) := by
      show (y == x) = decide (y = x)
      rw [Bool.beq_eq_decide_eq]
    rw [e]
    by_cases h : y = x
    · simp [h]
    · simp [h, Ne.symm h]
theorem flat_strs (ws : List Str) : (ws.map V.str).all flatV = true := by
  induction ws with
  | nil => rfl
  | cons a r ih => simpa [flatV] using ih
/-- signs put together -/
theorem join_l : ∀ cs : List Nat, (Txt.join (Str.ofString "") (cs.map fun c => (⟨#[c]⟩ : Str))).cps.toList = cs := fun cs => by
  rw [show Txt.join (Str.ofString "") (cs.map fun c => (⟨#[c]⟩ : Str)) = Str.join (Str.ofString "") (cs.map fun c => (⟨#[c]⟩ : Str)) from PySem.StrLaws.glued_eq_join _ _]
  have e0 : (Str.ofString "").cps.toList = [] := by decide +kernel
  induction cs with
  | nil => rfl
  | cons c r ih =>
    cases r with
    | nil => rfl
    | cons c2 r2 =>
      show ((⟨#[c]⟩ : Str) ++ Str.ofString "" ++ Str.join (Str.ofString "") ((c2 :: r2).map fun c => (⟨#[c]⟩ : Str))).cps.toList = c :: c2 :: r2
      rw [app_l, app_l, e0, ih]
      rfl
end K1
set_option Elab.async false
set_option linter.all false
set_option maxRecDepth 100000
set_option maxHeartbeats 4000000
namespace K1
open PySem PySem.Spec PyProof.Rows L2
/-! ### a def by its name, with its promise -/
structure Df (P : Program) (w : World) (K : PySem.W.Frag) (mg : Str → Option Value) (base : Heap) (CX : CXT) (x : Str) (k : Nat) (ps : List Str) (sp : Sp) : Prop where
  ex : ∃ (f : Addr) (fd : FuncData), FnOk P w K mg base CX k f fd ps sp ∧ mg x = some (.ref f) ∧ PySem.W.keepIn K (.ref f) = true ∧ Binds K fd ps []
theorem pe_df {X : Cx} {CX : CXT} {x : Str} {k j : Nat} {ps : List Str} {sp : Sp} {E : XK} {e : Expr} {es : List Expr} {t : TA} {p pos : Pos} (D : Df X.prog X.w X.K X.mg X.base CX x k ps sp) (hr : Room j X.A) (hx : Passes CX X E) (ha : PA X (e :: es) t)
    (hk : k ≤ j := by decide) (hg : Gl X x := by rfl) (hdb : (x == ("__debug__" : Str)) = false := by decide) (he : starEach (e :: es) X.env = (false, eval e X.env) :: starEach es X.env := by rfl) (hpl : (backTo pos (starEach es X.env)).any (·.1) = false := by rfl) :
    PE X (.Call (.Name x p) (e :: es) [] pos) (tCall sp [] E t) := by
  obtain ⟨f, fd, F, hm, kp, hb⟩ := D.ex
  exact pe_call F (hr.mono hk) hg hm kp hb .nil hx ha hdb he hpl
abbrev sPick' : Stmt := topS 48
abbrev sWords : Stmt := topS 49
structure Bt (mg : Str → Option Value) : Prop where
  list : mg "list" = none
  len : mg "len" = none
  range : mg "range" = none
def spPick : Sp := fun vs H Q _ => ∃ (d g c l : Addr) (t : Nat) (xs : List V), vs = [.ref d, .ref l] ∧ Gen d g c t H ∧ t < 2 ^ 30 ∧ H l = some (.lst xs) ∧ l ≠ g ∧ xs ≠ [] ∧ xs.length < 2 ^ 50 ∧
  ∀ (v : V) (H' : Hp), v ∈ xs → Gen d g c (t + 1) H' → Kp d g H H' → Q v H'
section
variable {P : Program} {w : World} {K : PySem.W.Frag} {mg : Str → Option Value} {base : Heap}
theorem scPick : FnScope ["_law_state", "_law_some"] ["_law_state", "_law_some"] (defScope sPick') := ⟨rfl, rfl, rfl, by decide +kernel, rfl, by decide +kernel, by decide +kernel⟩
theorem at_nat {xs : List V} {v : Int} (h0 : 0 ≤ v) (h1 : v < xs.length) : ∃ x, atI xs v = some x ∧ x ∈ xs := by
  obtain ⟨n, rfl⟩ := Int.eq_ofNat_of_zero_le h0
  have hn : n < xs.length := by omega
  exact ⟨xs[n], atI_nat (List.getElem?_eq_getElem hn), List.getElem_mem hn⟩
theorem ok_pick {f : Addr} {fd : FuncData} (F : Fun K "_law_pick" "_law_pick" sPick' f fd) (DT : Df P w K mg base CX0 "_law_take" 2 ["_law_state", "_law_size"] spTake) (T : Bt mg) : FnOk P w K mg base CX0 3 f fd ["_law_state", "_law_some"] spPick := by
  refine F.ok scPick (fun vs H Q E h => ?_) (fun cdv A outer s H vs Q E hr h => ?_)
  · obtain ⟨d, g, c, l, t, xs, rfl, _⟩ := h
    rfl
  · obtain ⟨d, g, c, l, t, xs, rfl, G, ht, hl, hlg, hne, hlen, k⟩ := h
    refine ⟨_, pss_one (ps_ret (pe_ix ix_list (pv 1) (pe_df DT hr pass0 (pa_cons (pv 0) (pa_cons (pe_callB call_len_seq (by rfl) T.len PySem.boot_len (pa_cons (pv 1) pa_nil)) pa_nil))) (fun _ _ => rfl))), ?_⟩
    have hpos : 0 < xs.length := List.length_pos_iff.mpr hne
    have hld : l ≠ d := by
      obtain ⟨_, _, _, _, _, e1, _⟩ := G
      exact ne_of hl e1 (by intro z; cases z)
    refine ⟨_, rfl, _, rfl, _, rfl, l, xs, rfl, .inl (SqL.of hl), d, g, c, t, (xs.length : Int), rfl, G, ht, by omega, by omega, fun v H' v0 v1 G' k' => ?_⟩
    obtain ⟨x, hx, hm⟩ := at_nat (xs := xs) v0 v1
    exact ⟨l, xs, v, x, rfl, rfl, SqL.of (k' l _ hld hlg hl), hx, k x H' hm G' k'⟩
abbrev nWords : List Str := ["_law_state", "_law_size", "_law_own", "_law_letters", "_law_found", "_law_k", "_law_word", "_law_long", "_law_j", "_law_one", "_law_letter"]
theorem scWords : FnScope nWords ["_law_state", "_law_size"] (defScope sWords) := ⟨rfl, rfl, rfl, by decide +kernel, rfl, by decide +kernel, by decide +kernel⟩
def spWords : Sp := fun vs H Q _ => ∃ (d g c : Addr) (t : Nat) (n : Nat), vs = [.ref d, .int n] ∧ Gen d g c t H ∧ n ≤ 25 ∧ t + 11 * n < 2 ^ 30 ∧
  ∀ (l : Addr) (ws : List Str) (H' : Hp), ws.length = n → ws.Nodup → (∀ w ∈ ws, nmB w = true) → H' l = some (.lst (ws.map V.str)) → H l = none → Gen d g c (t + 11 * n) H' → Kp d g H H' → Q (.ref l) H'
/-- the loop's state: v6 the word, ws the words found -/
def WS (d g c o F : Addr) (H0 : Hp) (n : Int) (ws : List Str) (tt : Nat) (v6 : Option V) (σ : L2.St) (H' : Hp) : Prop :=
  ∃ v5 v7 v8 v9 v10 : Option V, σ = [some (.ref d), some (.int n), some (.ref o), some (.str abc), some (.ref F), v5, v6, v7, v8, v9, v10] ∧ H' o = some (.lst (ownW.map V.str)) ∧ H' F = some (.lst (ws.map V.str)) ∧ Gen d g c tt H' ∧ Kp d g H0 H'
abbrev mk1 (c : Nat) : Str := ⟨#[c]⟩
theorem updN {H : Hp} {a b : Addr} {o : HO} (h : upd H a o b = none) : b ≠ a ∧ H b = none := by
  by_cases e : b = a
  · rw [e, upd_same] at h
    cases h
  · rw [upd_ne e] at h
    exact ⟨e, h⟩
theorem Gen.nd {d g c : Addr} {t : Nat} {H : Hp} (G : Gen d g c t H) {p : Addr} (h : H p = none) : p ≠ d ∧ p ≠ g := by
  obtain ⟨_, _, _, _, _, e1, e2, _⟩ := G
  exact ⟨(fun z => by rw [z, e1] at h; cases h), (fun z => by rw [z, e2] at h; cases h)⟩
theorem at_code {w : Str} {v : Int} (h0 : 0 ≤ v) (h1 : v < w.length) : ∃ x, atI w.cps.toList v = some x ∧ x ∈ w.cps.toList := by
  obtain ⟨n, rfl⟩ := Int.eq_ofNat_of_zero_le h0
  have hn : n < w.cps.toList.length := by rw [len_toList]; omega
  exact ⟨w.cps.toList[n], atI_nat (List.getElem?_eq_getElem hn), List.getElem_mem hn⟩
theorem Gen.nc {d g c : Addr} {t : Nat} {H : Hp} (G : Gen d g c t H) {p : Addr} (h : H p = none) : p ≠ c := by
  obtain ⟨_, _, _, _, _, _, _, e3, _⟩ := G
  exact fun z => by rw [z, e3] at h; cases h
theorem Gen.off {d g c p : Addr} {o : HO} {t : Nat} {H : Hp} (G : Gen d g c t H) (hd : p ≠ d) (hg : p ≠ g) (hc : p ≠ c) : Gen d g c t (upd H p o) := by
  obtain ⟨n, gs, cs, r, u, e1, e2, e3, e4⟩ := G
  exact ⟨n, gs, cs, r, u, by rw [upd_ne hd.symm]; exact e1, by rw [upd_ne hg.symm]; exact e2, by rw [upd_ne hc.symm]; exact e3, e4⟩
theorem sum_one : ∀ cs : List Nat, ((cs.map mk1).map (·.length)).sum = cs.length
  | [] => rfl
  | c :: r => by
    have ih := sum_one r
    rw [List.map_cons, List.map_cons, List.sum_cons, ih]
    show 1 + r.length = r.length + 1
    omega
theorem take_snoc {α : Type} : ∀ {l : List α} {i : Nat} {x : α}, l[i]? = some x → l.take (i + 1) = l.take i ++ [x]
  | [], i, x, h => by simp at h
  | a :: l, 0, x, h => by
    have e : a = x := by simpa using h
    rw [e]
    rfl
  | a :: l, i + 1, x, h => by
    have ih := take_snoc (l := l) (i := i) (x := x) (by simpa using h)
    rw [List.take_succ_cons, ih, List.take_succ_cons]
    rfl
theorem app_len (a b : Str) : (a ++ b).length = a.length + b.length := by
  rw [← len_toList, ← len_toList, ← len_toList, app_l, List.length_append]
theorem cutS_le (w : Str) : (cutS w none (some 6)).length ≤ w.length := by
  have h := cand_l w 0
  have h2 := congrArg List.length h
  rw [len_toList] at h2
  unfold cand at h2
  rw [app_len, app_len] at h2
  have e1 : (Str.ofString "z").length = 1 := by decide +kernel
  have e2 : (⟨#[0]⟩ : Str).length = 1 := rfl
  rw [e1, e2] at h2
  rw [List.length_append, List.length_take, len_toList] at h2
  simp only [List.length_cons, List.length_nil] at h2
  omega
theorem name_len {w : Str} (h : nameB w = true) : 1 ≤ w.length ∧ w.length ≤ 8 := by
  unfold nameB at h
  rw [Bool.and_eq_true, decide_eq_true_iff] at h
  exact h.1
theorem get_map {α β : Type} {f : α → β} {l : List α} {x : β} (h : x ∈ l.map f) : ∃ y, y ∈ l ∧ x = f y := by
  obtain ⟨y, h1, h2⟩ := List.mem_map.mp h
  exact ⟨y, h1, h2.symm⟩
theorem ok_words {f : Addr} {fd : FuncData} (F : Fun K "_law_words" "_law_words" sWords f fd) (DT : Df P w K mg base CX0 "_law_take" 2 ["_law_state", "_law_size"] spTake) (T : Bt mg) : FnOk P w K mg base CX0 3 f fd ["_law_state", "_law_size"] spWords := by
  refine F.ok scWords (fun vs H Q E h => ?_) (fun cdv A outer s H vs Q E hr h => ?_)
  · obtain ⟨d, g, c, t, n, rfl, _⟩ := h
    rfl
  · obtain ⟨d, g, c, t, n, rfl, G, hn, ht, k⟩ := h
    refine ⟨_, pss_cons (ps_set (i := 2) scWords.nd rfl (Or.inl rfl) pe_str)
      (pss_cons (ps_set (i := 2) scWords.nd rfl (Or.inl rfl) (pe_split (pe_op op_add_str (pv 2) pe_str) pe_str))
      (pss_cons (ps_asg (pe_tup (pa_cons pe_str (pa_cons (pe_lst pa_nil) pa_nil))) (pg_tup rfl (pgs_cons (pg_name (i := 3) scWords.nd rfl (Or.inr rfl)) (pgs_cons (pg_name (i := 4) scWords.nd rfl (Or.inr rfl)) pgs_nil))))
      (pss_cons (ps_for PassesOwn.never rfl (pi_range1 rfl T.range (pa_cons (pv 1) pa_nil)) (pg_name (i := 5) scWords.nd rfl (Or.inl rfl))
        (pss_cons (ps_set (i := 6) scWords.nd rfl (Or.inr rfl) (pe_ix ix_list (pv 2) (pe_df DT hr pass0 (pa_cons (pv 0) (pa_cons (pe_callB call_len_seq (by rfl) T.len PySem.boot_len (pa_cons (pv 2) pa_nil)) pa_nil))) (fun _ _ => rfl)))
        (C8.pss_cut (ps_if (pt_cmpR op_gt (pe_df DT hr pass0 (pa_cons (pv 0) (pa_cons pe_int pa_nil))) pe_int (nomark _))
          (pss_cons (ps_set (i := 7) scWords.nd rfl (Or.inl rfl) (pe_ix ix_list (pe_lst (pa_cons pe_int (pa_cons pe_int (pa_cons pe_int (pa_cons pe_int pa_nil))))) (pe_df DT hr pass0 (pa_cons (pv 0) (pa_cons pe_int pa_nil))) (fun _ _ => rfl)))
          (pss_one (ps_set (i := 6) scWords.nd rfl (Or.inr rfl) (pe_join pe_str
            (pe_lc (own := [("_law_j", 8)]) (g := gName 8) (tt := tYes) rfl scWords.nd (pi_range1 rfl T.range (pa_cons (pv 7) pa_nil)) (blkOk_by (N := nWords) (sc := defScope sWords) (by decide +kernel)) (fun _ _ _ _ _ => pg_name (i := 8) scWords.nd rfl (Or.inl rfl)) (fun _ _ _ _ _ => pts_nil)
              (fun _ _ _ _ _ => pe_ix ix_str (pv 3) (pe_df DT hr pass0 (pa_cons (pv 0) (pa_cons pe_int pa_nil))) (fun _ _ => rfl)))))))
          pss_nil)
        (C8.pss_cut (ps_if (pt_cmpR op_in_seq (pv 6) (pv 4) (by rfl))
          (pss_one (ps_set (i := 6) scWords.nd rfl (Or.inr rfl) (pe_ix ix_list (pe_lc (own := [("_law_one", 9)]) (g := gName 9) (tt := tTest (tOp (rIn K true) (tVar 9) (tVar 4))) rfl scWords.nd (pi_list (pe_lc (own := [("_law_letter", 10)]) (g := gName 10) (tt := tYes) rfl scWords.nd (pi_str (pv 3)) (blkOk_by (N := nWords) (sc := defScope sWords) (by decide +kernel)) (fun _ _ _ _ _ => pg_name (i := 10) scWords.nd rfl (Or.inl rfl)) (fun _ _ _ _ _ => pts_nil)
              (fun _ _ _ _ _ => pe_op op_add_str (pe_op op_add_str (pe_slice sl_str (pv 6) po_none (po_some pe_int)) pe_str) (pv 10)))) (blkOk_by (N := nWords) (sc := defScope sWords) (by decide +kernel)) (fun _ _ _ _ _ => pg_name (i := 9) scWords.nd rfl (Or.inl rfl)) (fun _ _ _ _ _ => pts_one (pt_cmpR op_notIn_seq (pv 9) (pv 4) (by rfl)))
              (fun _ _ _ _ _ => pv 9)) pe_int (fun _ _ => rfl))))
          pss_nil)
        (pss_one (ps_expr (pe_bm PySem.F.plainAttrs_list PySem.F.slot_list_append PySem.F.type_list_append mt_append (pv 4) (pa_cons (pv 6) pa_nil))))))))
      (pss_one (ps_ret (pv 4)))))), ?_⟩
    refine ⟨_, rfl, _, _, rfl, rfl, (by decide +kernel), ⟨_, rfl⟩, _, _, rfl, rfl, (by decide +kernel), (by decide +kernel), fun o ho => ?_⟩
    refine ⟨(by show 0 ≤ sizeLine; decide), fun F hF => ⟨(by show 2 ≤ sizeLine; decide), fun q hq => ⟨q, _, rfl, SqT.of upd_same, rfl, _, _, rfl, _, _, rfl, rfl, ?_⟩⟩⟩
    obtain ⟨nFo, hF'⟩ := updN hF
    obtain ⟨od, og⟩ := G.nd ho
    obtain ⟨Fd, Fg⟩ := G.nd hF'
    have sB : Same H (upd (upd (upd H o (.lst (ownW.map V.str))) F (.lst [])) q (.tup [.str abc, .ref F])) := Same.new (Same.new (Same.new (Same.refl H) ho) hF) hq
    have eo : (upd (upd (upd H o (.lst (ownW.map V.str))) F (.lst [])) q (.tup [.str abc, .ref F])) o = some (.lst (ownW.map V.str)) := Same.new (Same.refl _) hq _ _ (by rw [upd_ne (Ne.symm nFo), upd_same]; rfl)
    have eF : (upd (upd (upd H o (.lst (ownW.map V.str))) F (.lst [])) q (.tup [.str abc, .ref F])) F = some (.lst (([] : List Str).map V.str)) := Same.new (Same.refl _) hq _ _ upd_same
    have ol := ownW_len
    refine ⟨_, rfl, n, rfl, by omega, by omega, for_range (lo := 0) (n := n) (fun i σ H' => ∃ ws : List Str, ws.length = i ∧ ws.Nodup ∧ (∀ w ∈ ws, nmB w = true) ∧ ∃ v6, WS d g c o F H n ws (t + 11 * i) v6 σ H')
      ⟨[], rfl, List.nodup_nil, (fun _ z => absurd z (by simp)), none, none, none, none, none, none, rfl, eo, eF, G.same sB, Kp.of sB⟩ ?_ ?_⟩
    · rintro i σ H' hi ⟨ws, lw, nw, aw, v6, v5, v7, v8, v9, v10, rfl, e1, e2, G1, k1⟩
      -- the word is one of its own
      refine ⟨_, rfl, _, rfl, _, rfl, o, _, rfl, .inl (SqL.of e1), d, g, c, _, (((ownW.map V.str).length : Nat) : Int), rfl, G1, by omega, by rw [List.length_map]; omega, by rw [List.length_map]; omega, fun v H2 v0 v1 G2 k2 => ?_⟩
      obtain ⟨x, hx, hm⟩ := at_nat (xs := ownW.map V.str) v0 v1
      obtain ⟨w0, hw0, rfl⟩ := get_map hm
      refine ⟨o, _, v, _, rfl, rfl, SqL.of (k2 o _ od og e1), hx, ?_⟩
      -- .. or one of signs
      refine ⟨fun σ' H' => ∃ w1, nmB w1 = true ∧ WS d g c o F H n ws (t + 11 * i + 11) (some (.str w1)) σ' H', ?_, ?_⟩
      · refine ⟨_, rfl, d, g, c, _, 3, rfl, G2, by omega, by decide, by decide, fun u H3 u0 u1 G3 k3 => ⟨_, _, rfl, rfl, _, rfl, ?_⟩⟩
        have e13 := k3 o _ od og (k2 o _ od og e1)
        have e23 := k3 F _ Fd Fg (k2 F _ Fd Fg e2)
        have k13 := (k1.trans k2).trans k3
        refine ite2 (fun _ => ?_) (fun _ => ?_)
        · refine ⟨(by show 4 ≤ sizeLine; decide), fun p hp => ⟨_, rfl, d, g, c, _, 4, rfl, G3.new hp, by omega, by decide, by decide, fun u2 H4 u20 u21 G4 k4 => ?_⟩⟩
          obtain ⟨pd, pg⟩ := G3.nd hp
          have s3 := Same.new (o := .lst [.int 1, .int 2, .int 8, .int 3]) (Same.refl H3) hp
          obtain ⟨y, hy, my⟩ := at_nat (xs := [V.int 1, .int 2, .int 8, .int 3]) u20 u21
          obtain ⟨lg, hlg, rfl⟩ : ∃ lg : Nat, (1 ≤ lg ∧ lg ≤ 8 ∧ lg ≠ 7) ∧ y = .int lg := by
            simp only [List.mem_cons, List.not_mem_nil, or_false] at my
            rcases my with rfl | rfl | rfl | rfl
            · exact ⟨1, by decide, rfl⟩
            · exact ⟨2, by decide, rfl⟩
            · exact ⟨8, by decide, rfl⟩
            · exact ⟨3, by decide, rfl⟩
          have e14 := k4 o _ od og (s3 _ _ e13)
          have e24 := k4 F _ Fd Fg (s3 _ _ e23)
          have k14 := (k13.trans (Kp.of s3)).trans k4
          refine ⟨p, _, u2, _, rfl, rfl, SqL.of (k4 p _ pd pg upd_same), hy, ⟨_, rfl⟩, _, rfl, lg, rfl, by omega, by omega, fun D hD => lc_range (lo := 0) (n := lg) (fun i5 H5 => ∃ cs : List Nat, cs.length = i5 ∧ (∀ c ∈ cs, isLow c = true) ∧ H5 D = some (.lst ((cs.map mk1).map V.str)) ∧
              H5 o = some (.lst (ownW.map V.str)) ∧ H5 F = some (.lst (ws.map V.str)) ∧ Gen d g c (t + 11 * i + 3 + i5) H5 ∧ Kp d g H H5) ?_ ?_ ?_⟩
          · have s4 := Same.new (o := .lst []) (Same.refl H4) hD
            exact ⟨[], rfl, (fun _ z => absurd z (by simp)), upd_same, s4 _ _ e14, s4 _ _ e24, G4.same s4, k14.trans (Kp.of s4)⟩
          · rintro i5 H5 hi5 ⟨cs, lc, ac, eD, e15, e25, G5, k5⟩
            obtain ⟨nDo, hD'⟩ : D ≠ o ∧ D ≠ F := ⟨(fun z => by rw [z, e14] at hD; cases hD), (fun z => by rw [z, e24] at hD; cases hD)⟩
            obtain ⟨Dd, Dg⟩ := G4.nd hD
            refine ⟨rfl, _, rfl, _, rfl, d, g, c, _, 26, rfl, G5, by omega, by decide, by decide, fun u6 H6 u60 u61 G6 k6 => ?_⟩
            obtain ⟨ch, hch, mch⟩ := at_code (w := abc) u60 (by rw [abc_len]; exact u61)
            refine ⟨abc, u6, ch, rfl, rfl, (by decide +kernel), hch, _, k6 D _ Dd Dg eD, ?_, cs ++ [ch], ?_, ?_, ?_, ?_, ?_, ?_, ?_⟩
            · rw [List.length_map, List.length_map, sizeLine_eq]
              omega
            · rw [List.length_append, lc]
              rfl
            · intro x hx
              rcases List.mem_append.mp hx with h | h
              · exact ac x h
              · rw [List.mem_singleton.mp h]
                exact abc_low ch mch
            · rw [upd_same, List.map_append, List.map_append]
              rfl
            · rw [upd_ne (Ne.symm nDo)]
              exact k6 o _ od og e15
            · rw [upd_ne (Ne.symm hD')]
              exact k6 F _ Fd Fg e25
            · exact (G6.off Dd Dg (G4.nc hD)).mono (by omega)
            · exact (k5.trans k6).upd (.inl (G.free G4 k14 hD))
          · rintro H5 ⟨cs, lc, ac, eD, e15, e25, G5, k5⟩
            refine ⟨_, D, cs.map mk1, rfl, rfl, .inl (SqL.of eD), ?_, Txt.join (Str.ofString "") (cs.map mk1), ?_, _, _, _, _, _, rfl, e15, e25, G5.mono (by omega), k5⟩
            · rw [sum_one, List.length_map, show (Str.ofString "").length = 0 by decide +kernel]
              omega
            · have e := join_l cs
              have el := len_toList (Txt.join (Str.ofString "") (cs.map mk1))
              refine nm_of ?_ fun z => ?_
              · unfold nameB
                rw [e] at el ⊢
                rw [Bool.and_eq_true, decide_eq_true_iff, List.all_eq_true, ← el]
                exact ⟨by omega, ac⟩
              · rw [z, nosuch_l] at e
                have := congrArg List.length e
                simp only [List.length_cons, List.length_nil] at this
                omega
        · exact ⟨w0, ownW_nm w0 hw0, _, _, _, _, _, rfl, e13, e23, G3.mono (by omega), k13⟩
      · rintro σ' H5 ⟨w1, hw1, b5, b7, b8, b9, b10, rfl, e15, e25, G5, k5⟩
        refine ⟨fun σ' H' => ∃ w2, nmB w2 = true ∧ w2 ∉ ws ∧ WS d g c o F H n ws (t + 11 * i + 11) (some (.str w2)) σ' H', ?_, ?_⟩
        · refine ⟨_, rfl, _, rfl, F, _, rfl, .inl (SqL.of e25), rfl, flat_strs ws, _, rfl, ?_⟩
          refine ite2 (fun hb => ?_) (fun hb => ?_)
          · refine ⟨_, rfl, abc, rfl, fun D hD => lc_it walk_str (fun i6 H6 => Same H5 H6 ∧ H6 D = some (.lst (((abc.cps.toList.take i6).map (cand w1)).map V.str))) ⟨Same.new (Same.refl H5) hD, upd_same⟩ (fun _ _ _ _ => trivial) ?_ ?_⟩
            · rintro i6 x H6 H7 hi6 ⟨s6, eD⟩ ⟨rfl, ch, hch, rfl⟩
              have hch' : abc.cps.toList[i6]? = some ch := by rw [Array.getElem?_toList]; exact hch
              have hlen : i6 < 26 := by
                have := (List.getElem?_eq_some_iff.mp hch').1
                rw [len_toList, abc_len] at this
                exact this
              have nl := name_len (nm_name hw1)
              have hc1 : (cutS w1 none (some 6)).length ≤ 8 := by
                have := cutS_le w1
                omega
              have hcl : (cutS w1 none (some 6) ++ Str.ofString "z").length ≤ 9 := by
                rw [app_len, show (Str.ofString "z").length = 1 by decide +kernel]
                omega
              refine ⟨rfl, _, rfl, 6, rfl, w1, rfl, (by rw [sizeLine_eq]; omega), _, _, rfl, rfl, (by rw [sizeLine_eq, show (Str.ofString "z").length = 1 by decide +kernel]; omega), _, rfl, _, _, rfl, rfl, (by rw [sizeLine_eq, show (⟨#[ch]⟩ : Str).length = 1 from rfl]; omega), _, eD, ?_, ?_, ?_⟩
              · rw [List.length_map, List.length_map, List.length_take, sizeLine_eq]
                omega
              · exact fun b o e => by
                  rw [upd_ne (ne_of_none e hD)]
                  exact s6 b o e
              · rw [upd_same, take_snoc hch', List.map_append, List.map_append]
                rfl
            · rintro H6 ⟨s6, eD⟩
              rw [show abc.cps.size = abc.cps.toList.length from rfl, List.take_length] at eD
              refine ⟨D, rfl, ⟨_, SqL.of eD⟩, fun D2 hD2 => lc_list (K := K) (a := D) (xs := (abc.cps.toList.map (cand w1)).map V.str) (fun i7 H7 => Same H6 H7 ∧ H7 D2 = some (.lst ((((abc.cps.toList.map (cand w1)).take i7).filter fun x => decide (x ∉ ws)).map V.str)))
                ⟨Same.new (Same.refl H6) hD2, upd_same⟩ (fun i H7 _ z => SqL.of (z.1 _ _ eD)) ?_ ?_⟩
              · rintro i7 x H7 hi7 ⟨s7, eD2⟩
                rw [List.getElem?_map] at hi7
                obtain ⟨cw, hcw, rfl⟩ : ∃ cw, (abc.cps.toList.map (cand w1))[i7]? = some cw ∧ x = .str cw := by
                  cases e : (abc.cps.toList.map (cand w1))[i7]? with
                  | none => rw [e] at hi7; cases hi7
                  | some z => rw [e] at hi7; exact ⟨z, rfl, (Option.some.inj hi7).symm⟩
                have hl7 : i7 < 26 := by
                  have := (List.getElem?_eq_some_iff.mp hcw).1
                  rw [List.length_map, len_toList, abc_len] at this
                  exact this
                refine ⟨rfl, _, rfl, _, rfl, F, _, rfl, .inl (SqL.of (s7 _ _ (s6 _ _ e25))), rfl, flat_strs ws, _, rfl, ?_⟩
                refine ite2 (fun hb2 => ?_) (fun hb2 => ?_)
                · have hb3 : cw ∉ ws := by
                    have h2 : (!inV (.str cw) (ws.map V.str)) = true := hb2
                    rw [inV_str] at h2
                    simpa using h2
                  refine ⟨_, rfl, _, eD2, ?_, ?_, ?_⟩
                  · rw [List.length_map, sizeLine_eq]
                    have := List.length_filter_le (fun x => decide (x ∉ ws)) ((abc.cps.toList.map (cand w1)).take i7)
                    rw [List.length_take] at this
                    omega
                  · exact fun b o e => by
                      rw [upd_ne (ne_of_none e hD2)]
                      exact s7 b o e
                  · rw [upd_same, take_snoc hcw, List.filter_append, List.map_append]
                    simp [hb3]
                · have hb3 : cw ∈ ws := by
                    have h2 : ¬ (!inV (.str cw) (ws.map V.str)) = true := hb2
                    rw [inV_str] at h2
                    simpa using h2
                  refine ⟨s7, ?_⟩
                  rw [eD2, take_snoc hcw, List.filter_append]
                  simp [hb3]
              · rintro H7 ⟨s7, eD2⟩
                rw [List.length_map, List.take_length] at eD2
                obtain ⟨r, rest, hr⟩ := fresh w1 ws (by omega)
                have hin : r ∈ ((abc.cps.toList.map (cand w1)).filter fun x => decide (x ∉ ws)) := by
                  rw [hr]
                  exact List.mem_cons_self
                rw [List.mem_filter] at hin
                obtain ⟨h1, h2⟩ := hin
                obtain ⟨ch, hch, rfl⟩ := List.mem_map.mp h1
                rw [hr] at eD2
                have s67 : Same H5 H7 := s6.trans s7
                refine ⟨D2, _, 0, _, rfl, rfl, SqL.of eD2, atI_nat (j := 0) rfl, cand w1 ch, cand_nm hw1 (abc_low ch hch), by simpa using h2, _, _, _, _, _, rfl, s67 _ _ e15, s67 _ _ e25, G5.same s67, k5.trans (Kp.of s67)⟩
          · refine ⟨w1, hw1, ?_, _, _, _, _, _, rfl, e15, e25, G5, k5⟩
            have h2 : ¬ (inV (.str w1) (ws.map V.str)) = true := hb
            rw [inV_str] at h2
            simpa using h2
        · rintro σ' H6 ⟨w2, hw2, nin, c5, c7, c8, c9, c10, rfl, e16, e26, G6, k6⟩
          obtain ⟨Gd, Gg⟩ := G.nd hF'
          refine ⟨_, rfl, .inl ⟨rfl, _, SqL.of e26⟩, _, rfl, F, _, _, rfl, rfl, e26, (by rw [List.length_map, sizeLine_eq]; omega), ws ++ [w2], ?_, ?_, ?_, _, _, _, _, _, _, rfl, ?_, ?_, ?_, ?_⟩
          · rw [List.length_append, lw]
            rfl
          · rw [List.nodup_append]
            refine ⟨nw, by simp, fun a ha b hb => ?_⟩
            rw [List.mem_singleton.mp hb]
            exact fun e => nin (e ▸ ha)
          · intro x hx
            rcases List.mem_append.mp hx with h | h
            · exact aw x h
            · rw [List.mem_singleton.mp h]
              exact hw2
          · rw [upd_ne (Ne.symm nFo)]
            exact e16
          · rw [upd_same, List.map_append]
            rfl
          · exact (G6.off Fd Fg (G.nc hF')).mono (by omega)
          · exact k6.upd (.inl hF')
    · rintro σ H' ⟨ws, lw, nw, aw, v6, v5, v7, v8, v9, v10, rfl, e1, e2, G1, k1⟩
      exact ⟨_, rfl, k F ws H' lw nw aw e2 hF' G1 k1⟩
end
end K1
set_option Elab.async false
set_option linter.all false
set_option maxRecDepth 100000
set_option maxHeartbeats 4000000
namespace K1
open PySem PySem.Spec PyProof.Rows L2
/-! ### data that stands in the heap -/
mutual
theorem dp_same {K : PySem.W.Frag} {H H' : Hp} (s : Same H H') : ∀ (d : PyData) (v : V), Dp K H v d → Dp K H' v d
  | .none, _, .non => .non
  | .bool _, _, .bl b => .bl b
  | .int _, _, .int i => .int i
  | .str _, _, .str x => .str x
  | .list ds, _, .lst h a => .lst (s.seq h) (dp_sameAll s ds _ a)
  | .tuple ds, _, .tup h a => .tup (by
      rcases h with (h | ⟨o, h⟩) | h
      · exact .inl (.inl (s _ _ h))
      · exact .inl (.inr ⟨o, s _ _ h⟩)
      · exact .inr h) (dp_sameAll s ds _ a)
theorem dp_sameAll {K : PySem.W.Frag} {H H' : Hp} (s : Same H H') : ∀ (ds : List PyData) (vs : List V), DpAll K H vs ds → DpAll K H' vs ds
  | [], _, .nil => .nil
  | d :: ds, _, .cons h t => .cons (dp_same s d _ h) (dp_sameAll s ds _ t)
end
theorem dpAll_len {K : PySem.W.Frag} {H : Hp} : ∀ {vs : List V} {ds : List PyData}, DpAll K H vs ds → vs.length = ds.length
  | _, _, .nil => rfl
  | _, _, .cons _ t => by rw [List.length_cons, List.length_cons, dpAll_len t]
theorem dpAll_at {K : PySem.W.Frag} {H : Hp} : ∀ {vs : List V} {ds : List PyData} {i : Nat} {v : V}, DpAll K H vs ds → vs[i]? = some v → ∃ d, ds[i]? = some d ∧ Dp K H v d
  | _, _, i, v, .nil, h => by simp at h
  | _, _, 0, v, .cons (d := d) h _, e => ⟨d, rfl, by
      have e' := Option.some.inj e
      rw [← e']
      exact h⟩
  | _, _, i + 1, v, .cons _ t, e => dpAll_at (i := i) t e
/-- data, or some dict at the top -/
inductive Dm (K : PySem.W.Frag) (H : Hp) : V → PyData → Prop where
  | dat {v : V} {d : PyData} (h : Dp K H v d) : Dm K H v d
  | dic {a : Addr} {kvs : List (Key × V)} (h : H a = some (.dK kvs)) : Dm K H (.ref a) (.dict [])
theorem Dm.same {K : PySem.W.Frag} {H H' : Hp} {v : V} {d : PyData} (s : Same H H') (h : Dm K H v d) : Dm K H' v d := by
  cases h with
  | dat h => exact .dat (dp_same s _ _ h)
  | dic h => exact .dic (s _ _ h)
def tyOf : PyData → String
  | .none => "NoneType" | .bool _ => "bool" | .int _ => "int" | .str _ => "str" | .list _ => "list" | .tuple _ => "tuple" | .dict _ => "dict"
theorem tyx_list {K : PySem.W.Frag} {H : Hp} {a : Addr} {xs : List V} (h : SqL K H a xs) : TyX K H (.ref a) (.type "list") := by
  rcases h with (h | ⟨o, h⟩) | ⟨o, its, n, h, hc, _⟩
  · exact .base (.lst h)
  · exact .base (.frz h)
  · exact .kList h hc
theorem tyx_tup {K : PySem.W.Frag} {H : Hp} {a : Addr} {xs : List V} (h : SqT K H a xs) : TyX K H (.ref a) (.type "tuple") := by
  rcases h with (h | ⟨o, h⟩) | ⟨o, its, n, h, hc, _⟩
  · exact .base (.tup h)
  · exact .fTuple h
  · exact .kTuple h hc
theorem tyx_of {K : PySem.W.Frag} {H : Hp} {v : V} {d : PyData} (h : Dm K H v d) : TyX K H v (.type (tyOf d)) := by
  cases h with
  | dat h =>
    cases h with
    | non => exact .base .non
    | bl b => exact .base (.bl b)
    | int i => exact .base (.int i)
    | str s => exact .base (.str s)
    | lst h _ => exact tyx_list h
    | tup h _ => exact tyx_tup h
  | dic h => exact .base (.dK h)
def isInt : PyData → Bool | .int _ => true | .bool _ => true | _ => false
def isBool : PyData → Bool | .bool _ => true | _ => false
def isStr : PyData → Bool | .str _ => true | _ => false
def isTup : PyData → Bool | .tuple _ => true | _ => false
def isLst : PyData → Bool | .list _ => true | _ => false
theorem kit_int {K : PySem.W.Frag} : ∀ d : PyData, PySem.W.kitOne K (.type (tyOf d)) (.type "int") = some (isInt d)
  | .none => kit_ty (a := "NoneType") (b := "int") (r := false) (by decide +kernel)
  | .bool _ => kit_ty (a := "bool") (b := "int") (r := true) (by decide +kernel)
  | .int _ => kit_ty (a := "int") (b := "int") (r := true) (by decide +kernel)
  | .str _ => kit_ty (a := "str") (b := "int") (r := false) (by decide +kernel)
  | .list _ => kit_ty (a := "list") (b := "int") (r := false) (by decide +kernel)
  | .tuple _ => kit_ty (a := "tuple") (b := "int") (r := false) (by decide +kernel)
  | .dict _ => kit_ty (a := "dict") (b := "int") (r := false) (by decide +kernel)
theorem kit_bool {K : PySem.W.Frag} : ∀ d : PyData, PySem.W.kitOne K (.type (tyOf d)) (.type "bool") = some (isBool d)
  | .none => kit_ty (a := "NoneType") (b := "bool") (r := false) (by decide +kernel)
  | .bool _ => kit_ty (a := "bool") (b := "bool") (r := true) (by decide +kernel)
  | .int _ => kit_ty (a := "int") (b := "bool") (r := false) (by decide +kernel)
  | .str _ => kit_ty (a := "str") (b := "bool") (r := false) (by decide +kernel)
  | .list _ => kit_ty (a := "list") (b := "bool") (r := false) (by decide +kernel)
  | .tuple _ => kit_ty (a := "tuple") (b := "bool") (r := false) (by decide +kernel)
  | .dict _ => kit_ty (a := "dict") (b := "bool") (r := false) (by decide +kernel)
theorem kit_str {K : PySem.W.Frag} : ∀ d : PyData, PySem.W.kitOne K (.type (tyOf d)) (.type "str") = some (isStr d)
  | .none => kit_ty (a := "NoneType") (b := "str") (r := false) (by decide +kernel)
  | .bool _ => kit_ty (a := "bool") (b := "str") (r := false) (by decide +kernel)
  | .int _ => kit_ty (a := "int") (b := "str") (r := false) (by decide +kernel)
  | .str _ => kit_ty (a := "str") (b := "str") (r := true) (by decide +kernel)
  | .list _ => kit_ty (a := "list") (b := "str") (r := false) (by decide +kernel)
  | .tuple _ => kit_ty (a := "tuple") (b := "str") (r := false) (by decide +kernel)
  | .dict _ => kit_ty (a := "dict") (b := "str") (r := false) (by decide +kernel)
theorem kit_tup {K : PySem.W.Frag} : ∀ d : PyData, PySem.W.kitOne K (.type (tyOf d)) (.type "tuple") = some (isTup d)
  | .none => kit_ty (a := "NoneType") (b := "tuple") (r := false) (by decide +kernel)
  | .bool _ => kit_ty (a := "bool") (b := "tuple") (r := false) (by decide +kernel)
  | .int _ => kit_ty (a := "int") (b := "tuple") (r := false) (by decide +kernel)
  | .str _ => kit_ty (a := "str") (b := "tuple") (r := false) (by decide +kernel)
  | .list _ => kit_ty (a := "list") (b := "tuple") (r := false) (by decide +kernel)
  | .tuple _ => kit_ty (a := "tuple") (b := "tuple") (r := true) (by decide +kernel)
  | .dict _ => kit_ty (a := "dict") (b := "tuple") (r := false) (by decide +kernel)
theorem kit_lst {K : PySem.W.Frag} : ∀ d : PyData, PySem.W.kitOne K (.type (tyOf d)) (.type "list") = some (isLst d)
  | .none => kit_ty (a := "NoneType") (b := "list") (r := false) (by decide +kernel)
  | .bool _ => kit_ty (a := "bool") (b := "list") (r := false) (by decide +kernel)
  | .int _ => kit_ty (a := "int") (b := "list") (r := false) (by decide +kernel)
  | .str _ => kit_ty (a := "str") (b := "list") (r := false) (by decide +kernel)
  | .list _ => kit_ty (a := "list") (b := "list") (r := true) (by decide +kernel)
  | .tuple _ => kit_ty (a := "tuple") (b := "list") (r := false) (by decide +kernel)
  | .dict _ => kit_ty (a := "dict") (b := "list") (r := false) (by decide +kernel)
theorem kit_lt {K : PySem.W.Frag} (d : PyData) : PySem.W.kitAny K (.type (tyOf d)) [.type "list", .type "tuple"] = some (isLst d || isTup d) := by
  refine kitAny_cons (kit_lst d) (fun h => ?_) fun h => by rw [h]; rfl
  refine kitAny_cons (kit_tup d) (fun h2 => ?_) fun h2 => by rw [h2, Bool.or_true]
  rw [h, h2]
  exact kitAny_nil
/-! ### the data's own words -/
mutual
def fineD : PyData → Bool
  | .str s => decide (s.length ≤ 1000)
  | .list ds => decide (ds.length ≤ 1000) && fineAll ds
  | .tuple ds => decide (ds.length ≤ 1000) && fineAll ds
  | _ => true
def fineAll : List PyData → Bool
  | [] => true
  | d :: ds => fineD d && fineAll ds
end
theorem fine_at : ∀ {ds : List PyData} {i : Nat} {d : PyData}, fineAll ds = true → ds[i]? = some d → fineD d = true
  | [], i, d, _, h => by simp at h
  | a :: r, 0, d, hf, h => by
    have e := Option.some.inj h
    rw [← e]
    exact (Bool.and_eq_true_iff.mp hf).1
  | a :: r, i + 1, d, hf, h => fine_at (i := i) (Bool.and_eq_true_iff.mp hf).2 h
theorem fine_str {s : Str} (h : fineD (.str s) = true) : s.length ≤ 1000 := of_decide_eq_true h
theorem fine_tup {ds : List PyData} (h : fineD (.tuple ds) = true) : ds.length ≤ 1000 ∧ fineAll ds = true := by
  have h' := Bool.and_eq_true_iff.mp h
  exact ⟨of_decide_eq_true h'.1, h'.2⟩
theorem fine_lst {ds : List PyData} (h : fineD (.list ds) = true) : ds.length ≤ 1000 ∧ fineAll ds = true := by
  have h' := Bool.and_eq_true_iff.mp h
  exact ⟨of_decide_eq_true h'.1, h'.2⟩

def okD : PyData → Bool
  | .dict _ => true
  | d => fineD d && SeqAt.shaped d
theorem ok_str {s : Str} (h : okD (.str s) = true) : s.length ≤ 1000 := fine_str (Bool.and_eq_true_iff.mp h).1
theorem ok_tup {ds : List PyData} (h : okD (.tuple ds) = true) : ds.length ≤ 1000 ∧ fineAll ds = true ∧ SeqAt.shaped (.tuple ds) = true := by
  have h' := Bool.and_eq_true_iff.mp h
  exact ⟨(fine_tup h'.1).1, (fine_tup h'.1).2, h'.2⟩
theorem ok_lst {ds : List PyData} (h : okD (.list ds) = true) : ds.length ≤ 1000 ∧ fineAll ds = true ∧ SeqAt.shaped (.list ds) = true := by
  have h' := Bool.and_eq_true_iff.mp h
  exact ⟨(fine_lst h'.1).1, (fine_lst h'.1).2, h'.2⟩
theorem lay_at : ∀ {ds : List PyData} {i : Nat} {d : PyData}, PyData.canLayAll0 ds = true → ds[i]? = some d → PyData.canLay0 d = true
  | [], i, d, _, h => by simp at h
  | a :: r, 0, d, hf, h => by
    have e := Option.some.inj h
    rw [← e]
    have hf' : PyData.canLay0 a = true ∧ PyData.canLayAll0 r = true := by simpa [PyData.canLayAll0] using hf
    exact hf'.1
  | a :: r, i + 1, d, hf, h => by
    have hf' : PyData.canLay0 a = true ∧ PyData.canLayAll0 r = true := by simpa [PyData.canLayAll0] using hf
    exact lay_at (i := i) hf'.2 h
theorem dep_at : ∀ {ds : List PyData} {i : Nat} {d : PyData}, ds[i]? = some d → PyData.depth d ≤ PyData.depthAll ds
  | [], i, d, h => by simp at h
  | a :: r, 0, d, h => by
    have e := Option.some.inj h
    rw [← e]
    simp only [PyData.depthAll]
    exact Nat.le_max_left _ _
  | a :: r, i + 1, d, h => by
    have := dep_at (ds := r) (i := i) h
    simp only [PyData.depthAll]
    exact Nat.le_trans this (Nat.le_max_right _ _)
theorem nodict {d : PyData} (h : PyData.canLay0 d = true) : ∀ kvs, d ≠ .dict kvs := by
  rintro kvs rfl
  simp [PyData.canLay0] at h
theorem ok_of {d : PyData} (h : PyData.canLay0 d = true) (hf : fineD d = true) (hd : PyData.depth d ≤ 64) : okD d = true := by
  have hs : SeqAt.shaped d = true := by
    unfold SeqAt.shaped
    rw [h, Bool.true_and, decide_eq_true_iff]
    exact hd
  cases d <;> first | rfl | (show (fineD _ && SeqAt.shaped _) = true; rw [hf, hs]; rfl)
theorem tup_at {ds : List PyData} {i : Nat} {d : PyData} (h : okD (.tuple ds) = true) (hi : ds[i]? = some d) : okD d = true ∧ SeqAt.shaped d = true := by
  obtain ⟨_, h2, h3⟩ := ok_tup h
  have hl : PyData.canLayAll0 ds = true := by simpa [PyData.canLay0] using SeqAt.canLay_of_shaped h3
  have hd : PyData.depth d ≤ 64 := by
    have a := dep_at hi
    have b := SeqAt.depth_of_shaped h3
    simp only [PyData.depth] at b
    omega
  have l := lay_at hl hi
  exact ⟨ok_of l (fine_at h2 hi) hd, by unfold SeqAt.shaped; rw [l, Bool.true_and, decide_eq_true_iff]; exact hd⟩
theorem lst_at {ds : List PyData} {i : Nat} {d : PyData} (h : okD (.list ds) = true) (hi : ds[i]? = some d) : okD d = true ∧ SeqAt.shaped d = true := by
  obtain ⟨_, h2, h3⟩ := ok_lst h
  have hl : PyData.canLayAll0 ds = true := by simpa [PyData.canLay0] using SeqAt.canLay_of_shaped h3
  have hd : PyData.depth d ≤ 64 := by
    have a := dep_at hi
    have b := SeqAt.depth_of_shaped h3
    simp only [PyData.depth] at b
    omega
  have l := lay_at hl hi
  exact ⟨ok_of l (fine_at h2 hi) hd, by unfold SeqAt.shaped; rw [l, Bool.true_and, decide_eq_true_iff]; exact hd⟩
def numD : PyData → Bool | .int _ => true | _ => false
def listD (d : PyData) : Bool := isLst d || isTup d
def nameD : PyData → Bool | .str s => nameB s | _ => false
def kindsD (k : PyData) : Bool := PyData.eqv (.str "pair") k || (PyData.eqv (.str "row") k || (PyData.eqv (.str "heap") k || false))
def signD : PyData → Bool
  | .tuple [n, k, .int m] => nameD n && if PyData.eqv k (.str "plain") then decide (0 ≤ m ∧ m ≤ 4) else kindsD k && decide (m = 2)
  | _ => false
theorem one_more {K : PySem.W.Frag} {H : Hp} {xs : List V} {d : PyData} {ds : List PyData} (h : DpAll K H xs (d :: ds)) : ∃ x r, xs = x :: r ∧ Dp K H x d ∧ DpAll K H r ds := by
  cases h with
  | cons h t => exact ⟨_, _, rfl, h, t⟩
theorem no_more {K : PySem.W.Frag} {H : Hp} {xs : List V} (h : DpAll K H xs []) : xs = [] := by
  cases h with
  | nil => rfl
theorem three {K : PySem.W.Frag} {H : Hp} {xs : List V} {ds : List PyData} (h : DpAll K H xs ds) (hl : ds.length = 3) : ∃ a b c x y z, ds = [a, b, c] ∧ xs = [x, y, z] ∧ Dp K H x a ∧ Dp K H y b ∧ Dp K H z c := by
  match ds, hl with
  | [a, b, c], _ =>
    obtain ⟨x, r, rfl, h1, t1⟩ := one_more h
    obtain ⟨y, r, rfl, h2, t2⟩ := one_more t1
    obtain ⟨z, r, rfl, h3, t3⟩ := one_more t2
    cases no_more t3
    exact ⟨a, b, c, x, y, z, rfl, rfl, h1, h2, h3⟩
theorem signD_len : ∀ {ds : List PyData}, ds.length ≠ 3 → signD (.tuple ds) = false
  | [], _ => rfl
  | [_], _ => rfl
  | [_, _], _ => rfl
  | [_, _, _], h => absurd rfl h
  | a :: b :: c :: d :: r, _ => by
    cases c <;> rfl
theorem signD_name {n k m : PyData} (h : nameD n = false) : signD (.tuple [n, k, m]) = false := by
  cases m with
  | int i =>
    show (nameD n && _) = false
    rw [h, Bool.false_and]
  | _ => rfl
theorem signD_num {n k m : PyData} (h : numD m = false) : signD (.tuple [n, k, m]) = false := by
  cases m with
  | int i => cases h
  | _ => rfl
theorem signD_plain {n k : PyData} {m : Int} (h : nameD n = true) (hp : PyData.eqv k (.str "plain") = true) : signD (.tuple [n, k, .int m]) = decide (0 ≤ m ∧ m ≤ 4) := by
  show (nameD n && if PyData.eqv k (.str "plain") = true then decide (0 ≤ m ∧ m ≤ 4) else kindsD k && decide (m = 2)) = _
  rw [h, Bool.true_and, if_pos hp]
theorem signD_kind {n k : PyData} {m : Int} (h : nameD n = true) (hp : ¬ PyData.eqv k (.str "plain") = true) : signD (.tuple [n, k, .int m]) = (kindsD k && decide (m = 2)) := by
  show (nameD n && if PyData.eqv k (.str "plain") = true then decide (0 ≤ m ∧ m ≤ 4) else kindsD k && decide (m = 2)) = _
  rw [h, Bool.true_and, if_neg hp]
/-- what the text's constants and the built-ins are -/
structure Cs (mg : Str → Option Value) : Prop where
  small : ∃ t, mg "SMALL" = some (.str abc t)
  nlet : ∃ t, mg "NAME_LETTERS" = some (.int 8 t)
  msig : ∃ t, mg "MOST_SIGNS" = some (.int 24 t)
  mpla : ∃ t, mg "MOST_PLAIN" = some (.int 4 t)
  isi : mg "isinstance" = none
  int : mg "int" = none
  bool : mg "bool" = none
  str : mg "str" = none
  list : mg "list" = none
  tuple : mg "tuple" = none
  len : mg "len" = none
  all : mg "all" = none
  range : mg "range" = none
  repr : mg "repr" = none
  dict : mg "dict" = none
abbrev sNum : Stmt := topS 13
abbrev sList : Stmt := topS 14
abbrev sSmall : Stmt := topS 15
abbrev sName : Stmt := topS 16
abbrev sSign : Stmt := topS 18
def spP (K : PySem.W.Frag) (f : PyData → Bool) : Sp := fun vs H Q _ => ∃ (v : V) (d : PyData), vs = [v] ∧ Dm K H v d ∧ okD d = true ∧ ∀ H', Same H H' → Q (.bl (f d)) H'
def spSmall : Sp := fun vs H Q _ => ∃ (s : Str), vs = [.str s] ∧ s.length ≤ 100000 ∧ ∀ H', Same H H' → Q (.bl (s.cps.toList.all isLow)) H'
section
variable {P : Program} {w : World} {K : PySem.W.Frag} {mg : Str → Option Value} {base : Heap}
theorem scNum : FnScope ["thing"] ["thing"] (defScope sNum) := ⟨rfl, rfl, rfl, by decide +kernel, rfl, by decide +kernel, by decide +kernel⟩
theorem ok_num {f : Addr} {fd : FuncData} (F : Fun K "is_number" "is_number" sNum f fd) (T : Cs mg) : FnOk P w K mg base CX0 1 f fd ["thing"] (spP K numD) := by
  refine F.ok scNum (fun vs H Q E h => ?_) (fun cdv A outer s H vs Q E hr h => ?_)
  · obtain ⟨v, d, rfl, _⟩ := h
    rfl
  · obtain ⟨v, d, rfl, hd, fd', k⟩ := h
    refine ⟨_, pss_one (ps_ret (pe_and (pe_callB call_isi (by rfl) T.isi boot_isinstance (pa_cons (pv 0) (pa_cons (pe_bltn (v := .ty "int") (by rfl) T.int boot_int rfl) pa_nil)))
      (pe_one (pe_not (pe_callB call_isi (by rfl) T.isi boot_isinstance (pa_cons (pv 0) (pa_cons (pe_bltn (v := .ty "bool") (by rfl) T.bool boot_bool rfl) pa_nil))))))), ?_⟩
    refine ⟨_, rfl, _, _, _, _, _, rfl, .ty "int", tyx_of hd, kit_int d, _, rfl, ?_⟩
    refine ite2 (fun h1 => ?_) (fun h1 => ?_)
    · refine ⟨_, rfl, _, _, _, _, _, rfl, .ty "bool", tyx_of hd, kit_bool d, _, rfl, ?_⟩
      have e : (!isBool d) = numD d := by cases d <;> first | rfl | (exact absurd h1 Bool.false_ne_true)
      show Q (.bl (!isBool d)) H
      rw [e]
      exact k H (Same.refl H)
    · have e : false = numD d := by cases d <;> first | rfl | (exact absurd rfl h1)
      show Q (.bl false) H
      rw [e]
      exact k H (Same.refl H)
theorem scList : FnScope ["thing"] ["thing"] (defScope sList) := ⟨rfl, rfl, rfl, by decide +kernel, rfl, by decide +kernel, by decide +kernel⟩
theorem ok_list {f : Addr} {fd : FuncData} (F : Fun K "is_list" "is_list" sList f fd) (T : Cs mg) : FnOk P w K mg base CX0 1 f fd ["thing"] (spP K listD) := by
  refine F.ok scList (fun vs H Q E h => ?_) (fun cdv A outer s H vs Q E hr h => ?_)
  · obtain ⟨v, d, rfl, _⟩ := h
    rfl
  · obtain ⟨v, d, rfl, hd, fd', k⟩ := h
    refine ⟨_, pss_one (ps_ret (pe_callB call_isiT (by rfl) T.isi boot_isinstance (pa_cons (pv 0) (pa_cons (pe_tup (pa_cons (pe_bltn (v := .ty "list") (by rfl) T.list boot_list rfl) (pa_cons (pe_bltn (v := .ty "tuple") (by rfl) T.tuple boot_tuple rfl) pa_nil))) pa_nil)))), ?_⟩
    refine ⟨_, rfl, (by show 2 ≤ sizeLine; decide), fun p hp => ⟨_, p, _, _, _, _, rfl, upd_same, .cons (.ty "list") (.cons (.ty "tuple") .nil), tyx_of (hd.same (Same.new (Same.refl H) hp)), kit_lt d, k _ (Same.new (Same.refl H) hp)⟩⟩
theorem mem_abc (c : Nat) : decide (c ∈ abc.cps.toList) = isLow c := by
  rw [abc_l]
  unfold isLow
  by_cases h : 97 ≤ c ∧ c ≤ 122
  · rw [decide_eq_true h, decide_eq_true_iff, List.mem_map]
    exact ⟨c - 97, List.mem_range.mpr (by omega), by omega⟩
  · rw [decide_eq_false h, decide_eq_false_iff_not, List.mem_map]
    rintro ⟨a, h1, h2⟩
    have := List.mem_range.mp h1
    omega
theorem scSmall : FnScope ["text", "letter"] ["text"] (defScope sSmall) := ⟨rfl, rfl, rfl, by decide +kernel, rfl, by decide +kernel, by decide +kernel⟩
theorem ok_small {f : Addr} {fd : FuncData} (F : Fun K "is_small" "is_small" sSmall f fd) (T : Cs mg) : FnOk P w K mg base CX0 1 f fd ["text"] spSmall := by
  refine F.ok scSmall (fun vs H Q E h => ?_) (fun cdv A outer s H vs Q E hr h => ?_)
  · obtain ⟨s, rfl, _⟩ := h
    rfl
  · obtain ⟨s, rfl, hl, k⟩ := h
    obtain ⟨t, hsm⟩ := T.small
    refine ⟨_, pss_one (ps_ret (pe_callB (cr_all rfl) (by rfl) T.all (by decide +kernel) (pa_cons (pe_lc (own := [("letter", 1)]) (g := gName 1) (tt := tYes) rfl scSmall.nd (pi_str (pv 0)) (blkOk_by (N := ["text", "letter"]) (sc := defScope sSmall) (by decide +kernel)) (fun _ _ _ _ _ => pg_name (i := 1) scSmall.nd rfl (Or.inl rfl)) (fun _ _ _ _ _ => pts_nil)
      (fun _ _ _ _ _ => pe_cmpR op_in_sign (pv 1) (pe_glob (v := .str abc) (by rfl) hsm ⟨_, rfl⟩) (by rfl))) pa_nil))), ?_⟩
    refine ⟨_, rfl, s, rfl, fun D hD => lc_it walk_str (fun i H6 => Same H H6 ∧ H6 D = some (.lst (((s.cps.toList.take i).map isLow).map V.bl))) ⟨Same.new (Same.refl H) hD, upd_same⟩ (fun _ _ _ _ => trivial) ?_ ?_⟩
    · rintro i x H6 H7 hi ⟨s6, eD⟩ ⟨rfl, ch, hch, rfl⟩
      have hch' : s.cps.toList[i]? = some ch := by rw [Array.getElem?_toList]; exact hch
      have hi' : i < s.length := hi
      refine ⟨rfl, _, rfl, ch, abc, rfl, rfl, _, eD, ?_, ?_, ?_⟩
      · rw [List.length_map, List.length_map, List.length_take, sizeLine_eq, len_toList]
        omega
      · exact fun b o e => by
          rw [upd_ne (ne_of_none e hD)]
          exact s6 b o e
      · rw [upd_same, take_snoc hch', List.map_append, List.map_append, mem_abc]
        rfl
    · rintro H6 ⟨s6, eD⟩
      rw [show s.cps.size = s.cps.toList.length from rfl, List.take_length] at eD
      refine ⟨D, _, rfl, SqL.of eD, ?_⟩
      have e : ((s.cps.toList.map isLow).all id) = s.cps.toList.all isLow := by
        rw [List.all_map]
        rfl
      rw [e]
      exact k H6 s6
theorem scName : FnScope ["thing"] ["thing"] (defScope sName) := ⟨rfl, rfl, rfl, by decide +kernel, rfl, by decide +kernel, by decide +kernel⟩
theorem ok_name {f : Addr} {fd : FuncData} (F : Fun K "is_name" "is_name" sName f fd) (DS : Df P w K mg base CX0 "is_small" 1 ["text"] spSmall) (T : Cs mg) : FnOk P w K mg base CX0 2 f fd ["thing"] (spP K nameD) := by
  refine F.ok scName (fun vs H Q E h => ?_) (fun cdv A outer s H vs Q E hr h => ?_)
  · obtain ⟨v, d, rfl, _⟩ := h
    rfl
  · obtain ⟨v, d, rfl, hd, fd', k⟩ := h
    obtain ⟨t, hnl⟩ := T.nlet
    refine ⟨_, pss_one (ps_ret (pe_and (pe_callB call_isi (by rfl) T.isi boot_isinstance (pa_cons (pv 0) (pa_cons (pe_bltn (v := .ty "str") (by rfl) T.str boot_str rfl) pa_nil)))
      (pe_and (pe_chain op_le op_le pe_int (pe_callB call_len (by rfl) T.len PySem.boot_len (pa_cons (pv 0) pa_nil)) (pe_glob (v := .int 8) (by rfl) hnl ⟨_, rfl⟩))
      (pe_one (pe_df DS hr pass0 (pa_cons (pv 0) pa_nil)))))), ?_⟩
    refine ⟨_, rfl, _, _, _, _, _, rfl, .ty "str", tyx_of hd, kit_str d, _, rfl, ?_⟩
    cases d with
    | str s =>
      have ev : v = .str s := by
        cases hd with
        | dat h => cases h; rfl
      subst ev
      have hl := ok_str fd'
      refine ⟨_, rfl, .str s, s.length, rfl, ⟨by rw [sizeLine_eq]; omega, rfl⟩, _, _, rfl, rfl, _, rfl, ?_⟩
      have hq : ∀ (b : Bool) (H' : Hp), b = nameB s → Same H H' → Q (.bl b) H' := fun b H' e sm => by
        rw [e]
        exact k H' sm
      refine ite2 (fun h1 => ?_) (fun h1 => ?_)
      · refine ⟨_, _, rfl, rfl, _, rfl, ?_⟩
        refine ite2 (fun h2 => ?_) (fun h2 => ?_)
        · refine ⟨_, rfl, s, rfl, by omega, fun H' sm => hq _ H' ?_ sm⟩
          unfold nameB
          rw [decide_eq_true_iff] at h1 h2
          rw [show decide (1 ≤ s.length ∧ s.length ≤ 8) = true from decide_eq_true (by omega), Bool.true_and]
        · refine hq _ H ?_ (Same.refl H)
          unfold nameB
          rw [decide_eq_true_iff] at h1 h2
          rw [show decide (1 ≤ s.length ∧ s.length ≤ 8) = false from decide_eq_false (by omega), Bool.false_and]
      · refine ⟨_, rfl, hq _ H ?_ (Same.refl H)⟩
        unfold nameB
        rw [decide_eq_true_iff] at h1
        rw [show decide (1 ≤ s.length ∧ s.length ≤ 8) = false from decide_eq_false (by omega), Bool.false_and]
    | _ => exact k H (Same.refl H)
def rInT (K : PySem.W.Frag) : R2 := fun x y H Q => ∃ d ds, Dp K H x d ∧ Dp K H y (.tuple ds) ∧ SeqAt.shaped d = true ∧ SeqAt.shaped (.tuple ds) = true ∧ Q (.bl (ds.any fun z => PyData.eqv z d)) H
theorem op_inT {X : Cx} (hu : X.A.units + 65 < cLine) : OpR X (compareOp .In) (rInT X.K) := fun pins s σ H x y v u Q I rx ry h => by
  obtain ⟨d, ds, hd, he, sd, se, q⟩ := h
  obtain ⟨_, r1⟩ := Dp.reads I d x v hd rx
  obtain ⟨_, r2⟩ := Dp.reads I (.tuple ds) y u he ry
  exact SeqAt.in_tuple_reads r2 r1 (by simpa [PyData.canLay0] using SeqAt.canLay_of_shaped se) (SeqAt.canLay_of_shaped sd) (room_in_shaped sd hu) ⟨.bl _, H, I, rfl, q⟩
theorem units65 {k : Nat} {A : Around} (r : Room k A) : A.units + 65 < cLine := by
  have := r.un
  omega
theorem scSign : FnScope ["thing", "name", "kind", "many"] ["thing"] (defScope sSign) := ⟨rfl, rfl, rfl, by decide +kernel, rfl, by decide +kernel, by decide +kernel⟩
theorem ok_sign {f : Addr} {fd : FuncData} (F : Fun K "is_sign" "is_sign" sSign f fd) (DN : Df P w K mg base CX0 "is_name" 2 ["thing"] (spP K nameD)) (DM : Df P w K mg base CX0 "is_number" 1 ["thing"] (spP K numD)) (T : Cs mg) : FnOk P w K mg base CX0 3 f fd ["thing"] (spP K signD) := by
  refine F.ok scSign (fun vs H Q E h => ?_) (fun cdv A outer s H vs Q E hr h => ?_)
  · obtain ⟨v, d, rfl, _⟩ := h
    rfl
  · obtain ⟨v, d, rfl, hd, fd', k⟩ := h
    obtain ⟨t, hmp⟩ := T.mpla
    refine ⟨_, pss_cons (ps_if (PW.pt (pw_or (pt_not (pt_val (pe_callB call_isi (by rfl) T.isi boot_isinstance (pa_cons (pv 0) (pa_cons (pe_bltn (v := .ty "tuple") (by rfl) T.tuple boot_tuple rfl) pa_nil))))) (pw_or1 (pt_cmpR op_ne (pe_callB call_len (by rfl) T.len PySem.boot_len (pa_cons (pv 0) pa_nil)) pe_int (nomark _))))) (pss_one (ps_ret pe_bl)) pss_nil)
      (pss_cons (ps_asg (pv 0) (pg_tup rfl (pgs_cons (pg_name (i := 1) scSign.nd rfl (Or.inl rfl)) (pgs_cons (pg_name (i := 2) scSign.nd rfl (Or.inl rfl)) (pgs_cons (pg_name (i := 3) scSign.nd rfl (Or.inl rfl)) pgs_nil)))))
      (pss_cons (ps_if (PW.pt (pw_or (pt_not (pt_val (pe_df DN hr pass0 (pa_cons (pv 1) pa_nil)))) (pw_or1 (pt_not (pt_val (pe_df DM hr pass0 (pa_cons (pv 3) pa_nil))))))) (pss_one (ps_ret pe_bl)) pss_nil)
      (pss_cons (ps_if (pt_cmpR (op_eqD hr.units) (pv 2) pe_str (nomark _)) (pss_one (ps_ret (pe_chain op_le op_le pe_int (pv 3) (pe_glob (v := .int 4) (by rfl) hmp ⟨_, rfl⟩)))) pss_nil)
      (pss_one (ps_ret (pe_and (pe_cmpR (op_inT (units65 hr)) (pv 2) (pe_tup (pa_cons pe_str (pa_cons pe_str (pa_cons pe_str pa_nil)))) (by rfl)) (pe_one (pe_cmpR op_eq (pv 3) pe_int (nomark _))))))))), ?_⟩
    refine ⟨_, rfl, _, _, _, _, _, rfl, .ty "tuple", tyx_of hd, kit_tup d, _, rfl, ?_⟩
    cases d with
    | tuple ds =>
      cases hd with
      | dat hd =>
        cases hd with
        | tup ht ha =>
          rename_i a xs
          have hlen := dpAll_len ha
          have hb := (ok_tup fd').1
          refine ⟨_, rfl, .ref a, ds.length, rfl, .inr ⟨xs, ht, hlen.symm⟩, rfl, _, rfl, ?_⟩
          refine ite2 (fun h3 => ?_) (fun h3 => ?_)
          · have e : false = signD (.tuple ds) := (signD_len fun h4 => by
              rw [h4] at h3
              exact absurd h3 (by decide)).symm
            show Q (.bl false) H
            rw [e]
            exact k H (Same.refl H)
          · have h3' : ds.length = 3 := by
              have h4 : ¬ (!decide (V.int (ds.length : Int) = V.int 3)) = true := h3
              have h5 : V.int (ds.length : Int) = V.int 3 := by simpa using h4
              have h6 : (ds.length : Int) = 3 := V.int.inj h5
              omega
            obtain ⟨dn, dk, dm, vn, vk, vm, rfl, rfl, an, ak, am⟩ := three ha h3'
            have on := tup_at (i := 0) fd' rfl
            have okk := tup_at (i := 1) fd' rfl
            have om := tup_at (i := 2) fd' rfl
            have hq : ∀ (b : Bool) (H' : Hp), b = signD (.tuple [dn, dk, dm]) → Same H H' → Q (.bl b) H' := fun b H' e sm => by
              rw [e]
              exact k H' sm
            refine ⟨_, rfl, a, _, rfl, ht, rfl, _, _, rfl, _, _, rfl, _, _, rfl, rfl, ?_⟩
            refine ⟨_, rfl, vn, dn, rfl, .dat an, on.1, fun H1 s1 => ⟨_, rfl, ?_⟩⟩
            refine ite2 (fun hn => ?_) (fun hn => ?_)
            · refine hq false H1 ?_ s1
              have hn' : nameD dn = false := by simpa using hn
              cases dm <;> first | rfl | (show false = (nameD dn && _); rw [hn', Bool.false_and])
            · have hn' : nameD dn = true := by
                have h0 : ¬ (!nameD dn) = true := hn
                simpa using h0
              refine ⟨_, rfl, vm, dm, rfl, .dat (dp_same s1 _ _ am), om.1, fun H2 s2 => ⟨_, rfl, ?_⟩⟩
              have s12 := s1.trans s2
              refine ite2 (fun hm => ?_) (fun hm => ?_)
              · refine hq false H2 ?_ s12
                have hm' : numD dm = false := by simpa using hm
                exact (signD_num hm').symm
              · have hm' : numD dm = true := by
                  have h0 : ¬ (!numD dm) = true := hm
                  simpa using h0
                cases dm with
                | int m =>
                  cases am
                  refine ⟨_, rfl, dk, .str (Str.ofString "plain"), dp_same s12 _ _ ak, .str _, okk.2, by decide +kernel, _, rfl, ?_⟩
                  refine ite2 (fun hp => ?_) (fun hp => ?_)
                  · have es := signD_plain (k := dk) (m := m) hn' hp
                    refine ⟨_, rfl, _, _, rfl, rfl, _, rfl, ?_⟩
                    refine ite2 (fun h1 => ?_) (fun h1 => ?_)
                    · refine ⟨_, _, rfl, rfl, hq _ H2 ?_ s12⟩
                      rw [es]
                      rw [decide_eq_true_iff] at h1
                      by_cases h2 : m ≤ 4
                      · rw [decide_eq_true h2, decide_eq_true ⟨h1, h2⟩]
                      · rw [decide_eq_false h2, decide_eq_false (fun z => h2 z.2)]
                    · refine hq _ H2 ?_ s12
                      rw [es]
                      rw [decide_eq_true_iff] at h1
                      rw [decide_eq_false (fun z => h1 z.1)]
                  · have es := signD_kind (k := dk) (m := m) hn' hp
                    refine ⟨_, rfl, (by show 3 ≤ sizeLine; decide), fun p hp2 => ⟨dk, [.str "pair", .str "row", .str "heap"], dp_same (Same.new s12 hp2) _ _ ak, .tup (SqT.of upd_same) (.cons (.str _) (.cons (.str _) (.cons (.str _) .nil))), okk.2, by decide +kernel, _, rfl, ?_⟩⟩
                    refine ite2 (fun hk => ?_) (fun hk => ?_)
                    · refine ⟨_, rfl, rfl, hq _ _ ?_ (Same.new s12 hp2)⟩
                      have hk' : kindsD dk = true := hk
                      rw [es, hk', Bool.true_and]
                      by_cases h2 : m = 2
                      · subst h2
                        rfl
                      · rw [decide_eq_false h2, decide_eq_false (fun z => h2 (V.int.inj z))]
                    · refine hq _ _ ?_ (Same.new s12 hp2)
                      have hk' : kindsD dk = false := by
                        have h0 : ¬ kindsD dk = true := hk
                        simpa using h0
                      rw [es, hk', Bool.false_and]
                | _ => cases hm'
    | _ => exact k H (Same.refl H)
end
end K1
set_option Elab.async false
set_option linter.all false
set_option maxRecDepth 100000
set_option maxHeartbeats 4000000
namespace K1
open PySem PySem.Spec PyProof.Rows L2
abbrev cSigns : Stmt := topS 19
abbrev sInit : Stmt := inClass cSigns 0
abbrev sRows : Stmt := inClass cSigns 1
abbrev sHas : Stmt := inClass cSigns 2
abbrev sKind : Stmt := inClass cSigns 3
abbrev sMany : Stmt := inClass cSigns 4
abbrev sLen : Stmt := inClass cSigns 5
abbrev sEq : Stmt := inClass cSigns 6
/-- the fields of signs, as __init__ stores them -/
def sgF (rt td : Addr) : List (Str × V) := putF "_table" (.ref td) (putF "_rows" (.ref rt) [])
theorem n_tr : ¬ (("_table" : Str) = "_rows") := by decide +kernel
theorem n_rt : ¬ (("_rows" : Str) = "_table") := by decide +kernel
theorem sgF_rows (rt td : Addr) : (sgF rt td).lookup ("_rows" : Str) = some (.ref rt) := by
  unfold sgF
  rw [lookup_putF, if_neg n_rt, lookup_putF, if_pos rfl]
theorem sgF_table (rt td : Addr) : (sgF rt td).lookup ("_table" : Str) = some (.ref td) := by
  unfold sgF
  rw [lookup_putF, if_pos rfl]
theorem sgF_no (rt td : Addr) {m : Str} (h1 : ¬ m = "_table") (h2 : ¬ m = "_rows") : (sgF rt td).lookup m = none := by
  unfold sgF
  rw [lookup_putF, if_neg h1, lookup_putF, if_neg h2]
  rfl
def nameOf : PyData → Str
  | .tuple (.str s :: _) => s
  | _ => Str.empty
def itemsD : PyData → List PyData
  | .list ds => ds
  | .tuple ds => ds
  | _ => []
def goRows : List PyData → List Str → Bool
  | [], _ => true
  | d :: ds, seen => signD d && (!decide (nameOf d ∈ seen) && goRows ds (seen ++ [nameOf d]))
def signsD (d : PyData) : Bool := listD d && (decide (1 ≤ (itemsD d).length ∧ (itemsD d).length ≤ 24) && goRows (itemsD d) [])
theorem signD_shape {d : PyData} (h : signD d = true) : ∃ s k m, d = .tuple [.str s, k, .int m] ∧ nameB s = true := by
  unfold signD at h
  split at h
  · rename_i n k m
    have hn := (Bool.and_eq_true_iff.mp h).1
    cases n with
    | str s => exact ⟨s, k, m, rfl, hn⟩
    | _ => cases hn
  · cases h
theorem go_nd : ∀ (ds : List PyData) (seen : List Str), goRows ds seen = true → seen.Nodup → (seen ++ ds.map nameOf).Nodup
  | [], seen, _, hn => by simpa using hn
  | d :: ds, seen, h, hn => by
    obtain ⟨_, h2⟩ := Bool.and_eq_true_iff.mp h
    obtain ⟨h3, h4⟩ := Bool.and_eq_true_iff.mp h2
    have hni : nameOf d ∉ seen := by simpa using h3
    have ih := go_nd ds (seen ++ [nameOf d]) h4 (by
      rw [List.nodup_append]
      refine ⟨hn, by simp, fun a ha b hb => ?_⟩
      rw [List.mem_singleton.mp hb]
      exact fun e => hni (e ▸ ha))
    rw [List.append_assoc] at ih
    exact ih
theorem go_all : ∀ (ds : List PyData) (seen : List Str), goRows ds seen = true → ∀ d ∈ ds, signD d = true
  | d :: ds, seen, h, e, he => by
    obtain ⟨h1, h2⟩ := Bool.and_eq_true_iff.mp h
    obtain ⟨_, h4⟩ := Bool.and_eq_true_iff.mp h2
    rcases List.mem_cons.mp he with rfl | he
    · exact h1
    · exact go_all ds _ h4 e he
/-- the table of these names -/
def kvsOf (ns : List Str) (xs : List V) : List (Key × V) := (ns.map Sum.inr).zip xs
theorem val_kvs (n : Str) : ∀ (ns : List Str) (xs : List V), ns.length = xs.length → (valV (kvsOf ns xs) (Sum.inr n : Key)).isSome = decide (n ∈ ns)
  | [], [], _ => by simp [kvsOf, valV]
  | a :: ns, x :: xs, h => by
    have ih := val_kvs n ns xs (by simpa using h)
    show (valV ((Sum.inr a, x) :: kvsOf ns xs) (Sum.inr n : Key)).isSome = _
    by_cases e : a = n
    · rw [valV_pos (p := ((Sum.inr a : Key), x)) (by rw [e])]
      simp [e]
    · rw [valV_neg (p := ((Sum.inr a : Key), x)) (fun z => e (Sum.inr.inj z)), ih]
      simp [Ne.symm e]
theorem kvs_snoc {ns : List Str} {xs : List V} (h : ns.length = xs.length) (n : Str) (x : V) : kvsOf (ns ++ [n]) (xs ++ [x]) = kvsOf ns xs ++ [(Sum.inr n, x)] := by
  unfold kvsOf
  rw [List.map_append, List.zip_append (by rw [List.length_map]; exact h)]
  rfl
/-- signs of the rows xs stand at p, their names ns -/
structure SgAt (K : PySem.W.Frag) (C : Addr) (H : Hp) (p rt td : Addr) (xs : List V) (ns : List Str) : Prop where
  ob : ∃ dx, H p = some (.ins C dx (sgF rt td))
  rt : SqT K H rt xs
  td : H td = some (.dK (kvsOf ns xs))
  len : ns.length = xs.length
  nd : ns.Nodup
/-- an own error without fields -/
structure XC (K : PySem.W.Frag) (mg : Str → Option Value) (x : Str) (C : Addr) : Prop where
  g : mg x = some (.ref C)
  exc : PySem.W.excIn K C [.type "ValueError", .type "Exception", .type "BaseException", .type "object"] "ValueError.__new__" = true
  kp : PySem.W.keepIn K (.ref C) = true
  sub : PySem.W.subIn K (.ref C) (.type "BaseException") = some true
  ty : PySem.W.typeIn K (.ref C) = some (.type "type")
/-- the class Signs -/
structure SgC (K : PySem.W.Frag) (C : Addr) : Prop where
  cl : Cls K C
  nR : NoAttr K C "_rows"
  nT : NoAttr K C "_table"
def iSeq (K : PySem.W.Frag) (tl : TE) : TI := fun σ H R => tl σ H fun x H1 => ∃ (a : Addr) (xs : List V), x = .ref a ∧ (SqL K H1 a xs ∨ SqT K H1 a xs) ∧ ∀ (J : It) (G : Hp → Prop), (∀ H', (SqL K H1 a xs → SqL K H' a xs) → (SqT K H1 a xs → SqT K H' a xs) → G H') → Walk J xs.length G (YAt xs) → R J H1
theorem sqt_same {K : PySem.W.Frag} {H H' : Hp} {a : Addr} {xs : List V} (s : Same H H') (h : SqT K H a xs) : SqT K H' a xs := by
  rcases h with (h | ⟨o, h⟩) | h
  · exact .inl (.inl (s _ _ h))
  · exact .inl (.inr ⟨o, s _ _ h⟩)
  · exact .inr h
theorem sql_off {K : PySem.W.Frag} {H1 H' : Hp} {td a : Addr} {z : List (Key × V)} {xs : List V} (s : Same H1 H') (h : SqL K (upd H1 td (.dK z)) a xs) : SqL K H' a xs := by
  have key : ∀ u, upd H1 td (.dK z) a = some u → u ≠ .dK z → H' a = some u := fun u e n => by
    by_cases q : a = td
    · rw [q, upd_same] at e
      exact absurd (Option.some.inj e).symm n
    · rw [upd_ne q] at e
      exact s _ _ e
  rcases h with (h | ⟨o, h⟩) | h
  · exact .inl (.inl (key _ h (by intro q; cases q)))
  · exact .inl (.inr ⟨o, key _ h (by intro q; cases q)⟩)
  · exact .inr h
theorem sqt_off {K : PySem.W.Frag} {H1 H' : Hp} {td a : Addr} {z : List (Key × V)} {xs : List V} (s : Same H1 H') (h : SqT K (upd H1 td (.dK z)) a xs) : SqT K H' a xs := by
  have key : ∀ u, upd H1 td (.dK z) a = some u → u ≠ .dK z → H' a = some u := fun u e n => by
    by_cases q : a = td
    · rw [q, upd_same] at e
      exact absurd (Option.some.inj e).symm n
    · rw [upd_ne q] at e
      exact s _ _ e
  rcases h with (h | ⟨o, h⟩) | h
  · exact .inl (.inl (key _ h (by intro q; cases q)))
  · exact .inl (.inr ⟨o, key _ h (by intro q; cases q)⟩)
  · exact .inr h
theorem pi_seq {X : Cx} {tg : Expr} {i : Nat} {x : Str} {pos : Pos} (hl : PE X (.Name x pos) (tVar i)) : PI X tg (.Name x pos) (iSeq X.K (tVar i)) := by
  refine ⟨fun pins s σ H R I h => ?_⟩
  obtain ⟨v, e, a, xs, ev, h, hr⟩ := h
  rcases h with hx | hx
  · exact (pi_list hl).run pins s σ H R I ⟨v, e, a, ev, ⟨xs, hx⟩, hr (Itl X.K a) (fun H' => SqL X.K H' a xs) (fun H' z _ => z hx) walk_list⟩
  · exact (pi_tup hl).run pins s σ H R I ⟨v, e, a, ev, ⟨xs, hx⟩, hr (Itt X.K a) (fun H' => SqT X.K H' a xs) (fun H' _ z => z hx) walk_tup⟩
theorem seq_of {K : PySem.W.Frag} {H : Hp} {v : V} {d : PyData} (h : Dm K H v d) (hl : listD d = true) : ∃ a xs, v = .ref a ∧ (SqL K H a xs ∨ SqT K H a xs) ∧ DpAll K H xs (itemsD d) := by
  cases h with
  | dat h =>
    cases h with
    | lst hs ha => exact ⟨_, _, rfl, .inl hs, ha⟩
    | tup hs ha => exact ⟨_, _, rfl, .inr hs, ha⟩
    | _ => cases hl
  | dic h => cases hl
theorem items_ok {d : PyData} (h : okD d = true) (hl : listD d = true) : (itemsD d).length ≤ 1000 ∧ ∀ (i : Nat) (e : PyData), (itemsD d)[i]? = some e → okD e = true ∧ SeqAt.shaped e = true := by
  cases d with
  | list ds => exact ⟨(ok_lst h).1, fun i e he => lst_at h he⟩
  | tuple ds => exact ⟨(ok_tup h).1, fun i e he => tup_at h he⟩
  | _ => cases hl
theorem dp_at' {K : PySem.W.Frag} {H : Hp} {xs : List V} {ds : List PyData} {i : Nat} {x : V} (h : DpAll K H xs ds) (hx : xs[i]? = some x) : ∃ d, ds[i]? = some d ∧ Dp K H x d := dpAll_at h hx
theorem row_of {K : PySem.W.Frag} {H : Hp} {x : V} {s : Str} {k m : PyData} (h : Dp K H x (.tuple [.str s, k, m])) : ∃ b vk vm, x = .ref b ∧ SqT K H b [.str s, vk, vm] ∧ Dp K H vk k ∧ Dp K H vm m := by
  cases h with
  | tup ht ha =>
    obtain ⟨a1, r, rfl, h1, t1⟩ := one_more ha
    obtain ⟨a2, r, rfl, h2, t2⟩ := one_more t1
    obtain ⟨a3, r, rfl, h3, t3⟩ := one_more t2
    cases no_more t3
    cases h1
    exact ⟨_, a2, a3, rfl, ht, h2, h3⟩
mutual
/-- an instance's fields may change: data stays -/
theorem dp_off {K : PySem.W.Frag} {H : Hp} {p C dx : Addr} {f1 f2 f3 : List (Str × V)} (hp : H p = some (.ins C dx f1)) : ∀ (d : PyData) (v : V), Dp K H v d → Dp K (upd (upd H p (.ins C dx f2)) p (.ins C dx f3)) v d
  | .none, _, .non => .non
  | .bool _, _, .bl b => .bl b
  | .int _, _, .int i => .int i
  | .str _, _, .str x => .str x
  | .list ds, _, .lst h a => .lst (by
      rcases h with (h | ⟨o, h⟩) | h
      · exact .inl (.inl (by rw [upd_ne (fun q => by rw [q, hp] at h; cases h), upd_ne (fun q => by rw [q, hp] at h; cases h)]; exact h))
      · exact .inl (.inr ⟨o, by rw [upd_ne (fun q => by rw [q, hp] at h; cases h), upd_ne (fun q => by rw [q, hp] at h; cases h)]; exact h⟩)
      · exact .inr h) (dpAll_off hp ds _ a)
  | .tuple ds, _, .tup h a => .tup (by
      rcases h with (h | ⟨o, h⟩) | h
      · exact .inl (.inl (by rw [upd_ne (fun q => by rw [q, hp] at h; cases h), upd_ne (fun q => by rw [q, hp] at h; cases h)]; exact h))
      · exact .inl (.inr ⟨o, by rw [upd_ne (fun q => by rw [q, hp] at h; cases h), upd_ne (fun q => by rw [q, hp] at h; cases h)]; exact h⟩)
      · exact .inr h) (dpAll_off hp ds _ a)
theorem dpAll_off {K : PySem.W.Frag} {H : Hp} {p C dx : Addr} {f1 f2 f3 : List (Str × V)} (hp : H p = some (.ins C dx f1)) : ∀ (ds : List PyData) (vs : List V), DpAll K H vs ds → DpAll K (upd (upd H p (.ins C dx f2)) p (.ins C dx f3)) vs ds
  | [], _, .nil => .nil
  | d :: ds, _, .cons h t => .cons (dp_off hp d _ h) (dpAll_off hp ds _ t)
end
/-- what is made of signs: all but the new object's own fields stands -/
def spInit (K : PySem.W.Frag) (C CN : Addr) : Sp := fun vs H Q E => ∃ (p dx : Addr) (v : V) (d : PyData), vs = [.ref p, v] ∧ H p = some (.ins C dx []) ∧ Dm K H v d ∧ okD d = true ∧
  (signsD d = true → ∀ (rt td : Addr) (xs : List V) (H' : Hp), SgAt K C H' p rt td xs ((itemsD d).map nameOf) → DpAll K H' xs (itemsD d) → H td = none → (∀ b o, H b = some o → b ≠ p → H' b = some o) → Q .non H') ∧
  (signsD d = false → ∀ H', Same H H' → E (.ref CN) none H')
section
variable {P : Program} {w : World} {K : PySem.W.Frag} {mg : Str → Option Value} {base : Heap}
theorem scI : FnScope ["self", "rows", "table", "row"] ["self", "rows"] (defScope sInit) := ⟨rfl, rfl, rfl, by decide +kernel, rfl, by decide +kernel, by decide +kernel⟩
theorem ok_init {f C CN : Addr} {fd : FuncData} (F : Fun K "__init__" "Signs.__init__" sInit f fd) (DL : Df P w K mg base CX0 "is_list" 1 ["thing"] (spP K listD)) (DS : Df P w K mg base CX0 "is_sign" 3 ["thing"] (spP K signD)) (T : Cs mg) (N : XC K mg "NoSigns" CN) (G : SgC K C) : FnOk P w K mg base (L2.CX P w) 5 f fd ["self", "rows"] (spInit K C CN) := by
  refine F.okX scI (fun vs H Q E h => ?_) (fun cdv A outer s H vs Q E hr h => ?_)
  · obtain ⟨p, dx, v, d, rfl, _⟩ := h
    rfl
  · obtain ⟨p, dx, v, d, rfl, hp, hd, od, kY, kN⟩ := h
    obtain ⟨t, hms⟩ := T.msig
    have hu' := hu_of hr
    have hr3 : Room 3 _ := hr.mono (by decide)
    refine ⟨_, pss_cons (ps_if (PW.pt (pw_or (pt_not (pt_val (pe_df DL hr pass0 (pa_cons (pv 1) pa_nil)))) (pw_or1 (pt_not (pt_chain op_le op_le pe_int (pe_callB call_len (by rfl) T.len PySem.boot_len (pa_cons (pv 1) pa_nil)) (pe_glob (v := .int 24) (by rfl) hms ⟨_, rfl⟩))))))
        (pss_one (ps_raise rfl (takes_of rfl rfl rfl rfl) (pmk_own PySem.F.excBase_ValueError N.exc N.g N.kp (raises_own N.sub N.ty) rfl))) pss_nil)
      (pss_cons (ps_set (i := 2) scI.nd rfl (Or.inl rfl) pe_dnewK)
      (pss_cons (ps_for (passes_of rfl) rfl (pi_seq (pv 1)) (pg_name (i := 3) scI.nd rfl (Or.inl rfl))
        (pss_cons (ps_if (PW.pt (pw_or (pt_not (pt_val (pe_df DS hr pass0 (pa_cons (pv 3) pa_nil)))) (pw_or1 (pt_cmp (pc_din hu' (pe_ix ix_tup (pv 3) pe_int (fun _ _ => rfl)) (pv 2))))))
          (pss_one (ps_raise rfl (takes_of rfl rfl rfl rfl) (pmk_own PySem.F.excBase_ValueError N.exc N.g N.kp (raises_own N.sub N.ty) rfl))) pss_nil)
        (pss_one (ps_dput hu' (pv 2) (pe_ix ix_tup (pv 3) pe_int (fun _ _ => rfl)) (pv 3) rfl))))
      (pss_cons (ps_fld (pv 0) (pe_callTy call_tuple_of (by rfl) T.tuple boot_tuple (pa_cons (pv 1) pa_nil)) rfl)
      (pss_one (ps_fld (pv 0) (pv 2) rfl))))), ?_⟩
    refine ⟨_, rfl, v, d, rfl, hd, od, fun H1 s1 => ⟨_, rfl, ?_⟩⟩
    refine ite2 (fun hl => ?_) (fun hl => ?_)
    · have hl' : listD d = false := by simpa using hl
      exact kN (by unfold signsD; rw [hl', Bool.false_and]) H1 s1
    · have hl' : listD d = true := by
        have h0 : ¬ (!listD d) = true := hl
        simpa using h0
      obtain ⟨a, xs, rfl, hS, hA⟩ := seq_of (hd.same s1) hl'
      have hlen := dpAll_len hA
      obtain ⟨l1, ok1⟩ := items_ok od hl'
      have sd : signsD d = (decide (1 ≤ (itemsD d).length ∧ (itemsD d).length ≤ 24) && goRows (itemsD d) []) := by
        unfold signsD
        rw [hl', Bool.true_and]
      refine ⟨_, rfl, .ref a, xs.length, rfl, hS.elim (fun z => .inl ⟨_, z, rfl⟩) (fun z => .inr ⟨_, z, rfl⟩), _, _, rfl, rfl, _, rfl, ?_⟩
      refine ite2 (fun h1 => ?_) (fun h1 => ?_)
      · refine ⟨_, _, rfl, rfl, _, rfl, ?_⟩
        refine ite2 (fun h2 => ?_) (fun h2 => ?_)
        · refine kN ?_ H1 s1
          have h2' : ¬ ((xs.length : Int) ≤ 24) := by simpa using h2
          rw [sd, decide_eq_false (fun z => h2' (by omega)), Bool.false_and]
        · have hb : 1 ≤ (itemsD d).length ∧ (itemsD d).length ≤ 24 := by
            have h1' : (1 : Int) ≤ xs.length := by simpa using h1
            have h2' : (xs.length : Int) ≤ 24 := by simpa using h2
            omega
          have sd' : signsD d = goRows (itemsD d) [] := by
            rw [sd, decide_eq_true hb, Bool.true_and]
          intro td htd
          have npd : ∀ {H' : Hp}, Same H1 H' → H' p = some (.ins C dx []) := fun z => z _ _ (s1 _ _ hp)
          have ntp : td ≠ p := fun z => by rw [z, s1 _ _ hp] at htd; cases htd
          refine ⟨_, rfl, a, xs, rfl, hS.elim (fun z => .inl ((Same.new (Same.refl H1) htd).seq z)) (fun z => .inr (sqt_same (Same.new (Same.refl H1) htd) z)), fun J G' hG hW => ?_⟩
          refine for_it hW (fun i σ H' => ∃ v3 : Option V, σ = [some (.ref p), some (.ref a), some (.ref td), v3] ∧ Same H1 H' ∧ H' td = some (.dK (kvsOf (((itemsD d).take i).map nameOf) (xs.take i))) ∧ goRows (itemsD d) [] = goRows ((itemsD d).drop i) (((itemsD d).take i).map nameOf))
            ⟨none, rfl, Same.new (Same.refl H1) htd, upd_same, rfl⟩ ?_ ?_ ?_
          · rintro i σ H' _ ⟨_, _, sm, etd, _⟩
            exact hG H' (sql_off sm) (sqt_off sm)
          · rintro i x σ H' H'' hi ⟨v3, rfl, sm, etd, hg⟩ ⟨rfl, hx⟩
            obtain ⟨di, hdi, hx'⟩ := dp_at' hA hx
            have hDi : (itemsD d).drop i = di :: (itemsD d).drop (i + 1) := by
              obtain ⟨hi2, e⟩ := List.getElem?_eq_some_iff.mp hdi
              rw [List.drop_eq_getElem_cons hi2, e]
            rw [hDi] at hg
            have hg' : goRows (itemsD d) [] = (signD di && (!decide (nameOf di ∈ ((itemsD d).take i).map nameOf) && goRows ((itemsD d).drop (i + 1)) (((itemsD d).take i).map nameOf ++ [nameOf di]))) := hg
            refine ⟨_, rfl, x, di, rfl, .dat (dp_same sm _ _ hx'), (ok1 i di hdi).1, fun H2 s2 => ⟨_, rfl, ?_⟩⟩
            have sm2 := sm.trans s2
            have etd2 := s2 _ _ etd
            refine ite2 (fun hs => ?_) (fun hs => ?_)
            · have hs' : signD di = false := by simpa using hs
              exact kN (by rw [sd', hg', hs', Bool.false_and]) H2 (s1.trans sm2)
            · have hs' : signD di = true := by
                have h0 : ¬ (!signD di) = true := hs
                simpa using h0
              obtain ⟨nm, kk, mm, rfl, hnm⟩ := signD_shape hs'
              obtain ⟨b, vk, vm, rfl, hb, _, _⟩ := row_of hx'
              have hb2 := sqt_same sm2 hb
              refine ⟨_, rfl, b, _, 0, _, rfl, rfl, hb2, atI_nat (j := 0) rfl, _, rfl, td, _, rfl, DGet.k (k := Sum.inr nm) etd2, _, rfl, ?_⟩
              have hll : (((itemsD d).take i).map nameOf).length = (xs.take i).length := by
                rw [List.length_map, List.length_take, List.length_take, hlen]
              rw [val_kvs nm _ _ hll]
              refine ite2 (fun hm => ?_) (fun hm => ?_)
              · exact kN (by rw [sd', hg', hs', Bool.true_and, show nameOf (.tuple [.str nm, kk, .int mm]) = nm from rfl, hm]; rfl) H2 (s1.trans sm2)
              · have hm' : decide (nm ∈ ((itemsD d).take i).map nameOf) = false := by simpa using hm
                refine ⟨_, rfl, _, rfl, _, rfl, b, _, 0, _, rfl, rfl, hb2, atI_nat (j := 0) rfl, td, _, rfl, DPut.k (k := Sum.inr nm) etd2 ?_, _, rfl, ?_, ?_, ?_⟩
                · unfold kvsOf
                  rw [List.length_zip, List.length_map, List.length_map, List.length_take, sizeLine_eq]
                  omega
                · exact fun c o e => by
                    rw [upd_ne (ne_of_none e htd)]
                    exact sm2 c o e
                · have hv : valV (kvsOf (((itemsD d).take i).map nameOf) (xs.take i)) (Sum.inr nm : Key) = none := by
                    have := val_kvs nm _ _ hll
                    rw [hm'] at this
                    simpa using this
                  rw [upd_same, putK_new _ hv, take_snoc hdi, take_snoc hx, List.map_append, show ([PyData.tuple [.str nm, kk, .int mm]] : List PyData).map nameOf = [nm] from rfl, kvs_snoc hll]
                · rw [hg', hs', show nameOf (.tuple [.str nm, kk, .int mm]) = nm from rfl, hm', take_snoc hdi, List.map_append]
                  rfl
          · rintro σ H' ⟨v3, rfl, sm, etd, hg⟩
            have hgT : signsD d = true := by
              rw [sd', hg, List.drop_of_length_le (by omega)]
              rfl
            rw [hlen, List.take_length, ← hlen, List.take_length] at etd
            have fin : ∀ (rt : Addr) (H3 : Hp), Same H' H3 → SqT K H3 rt xs → sFld K (tVar 0) (tVar 2) "_table" { nx := fun _ H' => Q .non H', rt := Q } [some (.ref p), some (.ref a), some (.ref td), v3] (upd H3 p (.ins C dx (putF "_rows" (.ref rt) []))) := by
              intro rt H3 s3 hrt
              have n0 : ∀ (o : HO), (upd H3 p (.ins C dx (putF "_rows" (.ref rt) []))) td = some o ↔ H3 td = some o := fun o => by rw [upd_ne ntp]
              refine ⟨_, rfl, _, rfl, p, C, dx, _, rfl, upd_same, G.cl, G.nT, (by show 1 < 1000; decide), ?_⟩
              have hp3 : H3 p = some (.ins C dx []) := s3 _ _ (npd sm)
              have offL : ∀ {c : Addr} {o : HO}, H3 c = some o → c ≠ p → upd (upd H3 p (.ins C dx (putF "_rows" (.ref rt) []))) p (.ins C dx (putF "_table" (.ref td) (putF "_rows" (.ref rt) []))) c = some o := fun {c o} e n => by
                rw [upd_ne n, upd_ne n]
                exact e
              have offT : ∀ {c : Addr} {ys : List V}, SqT K H3 c ys → SqT K (upd (upd H3 p (.ins C dx (putF "_rows" (.ref rt) []))) p (.ins C dx (putF "_table" (.ref td) (putF "_rows" (.ref rt) [])))) c ys := fun {c ys} z => by
                rcases z with (z | ⟨o, z⟩) | z
                · exact .inl (.inl (offL z (fun q => by rw [q, hp3] at z; cases z)))
                · exact .inl (.inr ⟨o, offL z (fun q => by rw [q, hp3] at z; cases z)⟩)
                · exact .inr z
              refine kY hgT rt td xs _ ⟨⟨dx, upd_same⟩, offT hrt, offL (s3 _ _ etd) ntp, ?_, ?_⟩ ?_ (s1.free htd) ?_
              · rw [List.length_map, hlen]
              · have := go_nd (itemsD d) [] (by rw [← sd']; exact hgT) List.nodup_nil
                simpa using this
              · exact dpAll_off (s3 _ _ (npd sm)) _ _ (dp_sameAll (sm.trans s3) _ _ hA)
              · exact fun c o e n => offL (s3 _ _ (sm _ _ (s1 _ _ e))) n
            rcases hS with hS | hS
            · refine ⟨_, rfl, a, xs, rfl, .inl ⟨sm.seq hS, fun l hl2 => ⟨_, rfl, p, C, dx, [], rfl, Same.new (Same.refl H') hl2 _ _ (npd sm), G.cl, G.nR, (by show 0 < 1000; decide), fin l _ (Same.new (Same.refl H') hl2) (SqT.of upd_same)⟩⟩⟩
            · exact ⟨_, rfl, a, xs, rfl, .inr ⟨sqt_same sm hS, ⟨_, rfl, p, C, dx, [], rfl, npd sm, G.cl, G.nR, (by show 0 < 1000; decide), fin a H' (Same.refl H') (sqt_same sm hS)⟩⟩⟩
      · refine ⟨_, rfl, ?_⟩
        refine kN ?_ H1 s1
        have h1' : ¬ ((1 : Int) ≤ xs.length) := by simpa using h1
        rw [sd, decide_eq_false (fun z => h1' (by omega)), Bool.false_and]
end
end K1
set_option Elab.async false
set_option linter.all false
set_option maxRecDepth 100000
set_option maxHeartbeats 4000000
namespace PySem
namespace NsX
open PySem.W PySem.Calls PyProof.Rows PySem.HandSPX
/-! ### an own error over TurnError over ValueError: its __init__ says super().__init__('..') and stores one field -/
abbrev sNs : Stmt := L2.inClass (K1.topS 4) 0
/-- what the written part says of the class at C, of its base at CT, of its __init__ at fI, and of the cell at cc -/
structure NsTxt (prog : Program) (K : Frag) (C CT fI cc cda : Addr) : Prop where
  cls : ∃ nm q N bs bm sn sub ab col dd k0 k1 k2 k3 k5, K.lookup C = some (excClassObj nm q C N bs bm true sn sub ab col dd k0 k1 k2 k3 k5 "ValueError.__new__") ∧ refsVE bm = true ∧ alongIn K "__init__" bm = some (some (.builtin "ValueError.__init__"))
  sa : findIn K (.ref C) "__setattr__" = some (some (.builtin "object.__setattr__"))
  noN : findIn K (.ref C) "name" = some none
  iC : findIn K (.ref C) "__init__" = some (some (.ref fI))
  tC : typeIn K (.ref fI) = some (.type "function")
  kC : keepIn K (.ref C) = true
  exC : subIn K (.ref C) (.type "BaseException") = some true
  veC : subIn K (.ref C) (.type "ValueError") = some true
  mrC : mroIn K C (.ref C) = some true
  tyC : typeIn K (.ref C) = some (.type "type")
  opq : nsIn K cStatics "thirdparty.any" = some none
  sup : nsIn K mainGlobals "super" = some none
  cell : ∃ cl cld csl, K.lookup cc = some ⟨cl, cld, .cell (some (.ref C)), csl⟩
  code : ∃ ccl cdd vs ccs file tf, K.lookup cda = some ⟨ccl, cdd, .fields vs, ccs⟩ ∧ vs[2]? = some (.str file tf) ∧ ((prog.main.file : Str) == file) = true
  top : (prog.main.scope.names.lookup ("super" : Str)).isSome = false
  fn : ∃ (oc : Value) (od : Option Addr) (doc pm : Value) (an : Option Addr) (ct : Value) (osl : Array (Option Value)),
    K.lookup fI = some ⟨oc, od, .func (ksFn "__init__" "NoSign.__init__" (L2.defArgs sNs) (L2.defBody sNs) (L2.defScope sNs) .none .none doc pm an (.ref cda) ct cc), osl⟩ ∧ codeIn K (.ref cda) "NoSign.__init__" = true
structure NsEnd (h h' : Heap) (x C dx : Addr) (v : Value) : Prop where
  keep : ∀ b o, b ≠ x → h.get? b = some o → h'.get? b = some o
  obj : ∃ t1, h'.get? x = some { cls := .ref C, dict := some dx, data := .fields #[.ref t1, .none, .none, .none, .bool false, .none] }
  dbig : h.objs.size ≤ dx
  dne : dx ≠ x
  ns : h'.Ns1 dx (fun y => if y = "name" then some v else none)
section
variable {prog : Program} {w : World} {A : Around} {E : Value → Shared → Prop} {R : Result → Shared → Prop} {s : Shared} {K : Frag} {mg : Str → Option Value} {C CT fI cc cda : Addr}
theorem bw_call {u x t0 : Addr} {rest : List Value} {Q : Value → Shared → Prop} {nm q : Str} {N : Addr} {bs bm : List Value} {hdct : Bool} {sn : List Str} {sub : List Value} {ab : Bool} {col : Option Bool} {dd : Option Addr} {k0 k1 k2 k3 k5 : Option Value}
    (hC : s.heap.get? C = some (excClassObj nm q C N bs bm hdct sn sub ab col dd k0 k1 k2 k3 k5 "ValueError.__new__")) (hx : s.heap.get? x = some (excO C t0)) (hu : s.heap.get? u = some (kxs_mw "ValueError.__init__" x)) (hz : rest.length ≤ sizeLine)
    (hq : ∀ h' t1, (∀ b o, b ≠ x → s.heap.get? b = some o → h'.get? b = some o) → h'.get? x = some (excO C t1) → Q .none { s with heap := h' }) :
    wpAny (model prog w) A (call (.ref u) rest) Q E s := by
  obtain ⟨hh, g, d, tk, os⟩ := s
  refine wpAny_call (codeAny_of_tree ?_)
  show wpAny _ A.in1 (callAny (.ref u) ⟨rest, []⟩) _ _ _
  simp only [callAny]
  refine wpAny_bind (wpAny_load hu ?_)
  simp only [kxs_mw, show (Value.type "method-wrapper" == Value.type "method" || Value.type "method-wrapper" == Value.type "builtin_function_or_method" || Value.type "method-wrapper" == Value.type "method-wrapper") = true by decide, if_true]
  refine KFB.if_so (by decide) ?_
  refine wpAny_bind (check_bound_init PySem.F.excBase_ValueError.toExcCallFacts hC hx rfl ?_)
  refine wpAny_bind (wpAny_pure (wpAny_pure ?_))
  refine ⟨plainId_quiet PySem.F.excBase_ValueError.init.plain _, codeAny_builtin PySem.F.excBase_ValueError.initEntry ?_⟩
  exact exc_init_tree (cls := .ref C) (t0 := t0) (dv := none) (c2 := .none) (c3 := .none) (b4 := .bool false) hx hz (fun h' k e' _ => hq h' _ k e')
theorem ns_init (T : NsTxt prog K C CT fI cc cda) {x t0 : Addr} {v : Value} {mb : Str → Option Value} (X : K.In s.heap) (G : s.heap.Ns mainGlobals mg) (GB : s.heap.Ns builtinsNs mb) (hB : ∀ y : Str, y ≠ "__name__" → mb y = bootBuiltins y) (hlim : s.heap.NoLimit) (hx : s.heap.get? x = some (excO C t0)) (hnx : K.lookup x = none) (hroom : A.depth < recursionLimit)
    (hq : ∀ h' tk dx, NsEnd s.heap h' x C dx v → R (.ok (.ret .none)) { s with heap := h', toks := tk }) :
    codeAny (model prog w) A (.call (.ref fI) ⟨[.ref x, v], []⟩) R s := by
  obtain ⟨oc, od, doc, pm, an, ct, osl, ho, hcd⟩ := T.fn
  obtain ⟨nm, q, N, bs, bm, sn, sub, ab, col, dd, k0, k1, k2, k3, k5, hC, hbm, hal⟩ := T.cls
  obtain ⟨cl, cld, csl, hcell⟩ := T.cell
  obtain ⟨ccl, cdd, vs, ccs, file, tf, hcode, hvs, hfile⟩ := T.code
  have hcl : clsIn K C = some { name := nm, bases := bs, mro := .ref C :: bm, ns := N, qualname := q, hasDict := true, slotNames := sn, subclasses := sub, abstract := ab, collection := col, hasDel := false } := by unfold clsIn; rw [hC] <;> rfl
  refine ks_codeAny_call_defAt (body := L2.defBody sNs) (binds := [("self", .ref x), ("name", v)]) hroom (X _ _ ho) rfl hlim (codeRec_of X hcd) rfl (BindsTo.of_eq (by first | rfl | with_unfolding_all rfl)) (show ∀ y ∈ (L2.defScope sNs).names, y.2 ≠ .cell by decide +kernel) (by first | decide | (intro y hy; simp at hy; rcases hy with rfl | rfl <;> rfl)) (fun h₁ hns k => ?_)
  have X₁ : K.In h₁ := X.keeps k
  have hx₁ := k _ _ hx
  refine ks_wpAt_execs_cons (ks_wpAt_Expr_any (ks_wpAt_MethodCall ?_))
  have hk : (L2.defScope sNs).kind = .function := rfl
  have hsup : mg "super" = none := mg_none_of X G T.sup
  have G₁ := G.keeps k
  have GB₁ := GB.keeps k
  obtain ⟨oD, hD1, hD2⟩ : ∃ oD, h₁.get? C = some oD ∧ oD.data = .cls { name := nm, bases := bs, mro := .ref C :: bm, ns := N, qualname := q, hasDict := true, slotNames := sn, subclasses := sub, abstract := ab, collection := col, hasDel := false } := ⟨_, X₁ _ _ hC, rfl⟩
  refine ks_wpAt_super_base rfl rfl (by decide) rfl (X₁ _ _ ho) rfl rfl rfl (X₁ _ _ hcode) rfl hvs hfile T.top ?_
  refine ks_loadName_global hk rfl (loadGlobal_builtin G₁ hsup GB₁ ((hB _ (by decide +kernel)).trans (by first | boot_by_name | rfl | kernel_rfl)) ⟨rfl, ?_⟩)
  refine wpAny_loadName_free hk rfl rfl ⟨_, X₁ _ _ hcell, rfl⟩ ?_
  refine wpAny_loadName_local hk rfl hns rfl ?_
  refine ks_wpAny_isType_cls hD1 hD2 ⟨rfl, ?_⟩
  refine ks_wpAny_call_super hD1 hD2 hx₁ rfl (fun c e => by cases e) (looks_mroIn X₁ T.mrC) (fun h₂ e₂ k₂ => ?_)
  have X₂ : K.In h₂ := X₁.keeps k₂
  have hx₂ := k₂ _ _ hx₁
  have I₂ : InstAt h₂ x (excO C t0) C none := ⟨hx₂, rfl, rfl, trivial⟩
  refine kxs_getMethod kxs_ValueError e₂ (looks_opaque X₂ T.opq) (l₀ := .ref C :: bm) (l := bm) (fun A Q E s k q => wpAny_bind ((looks_clsIn X₂ hcl) A _ E s k (wpAny_pure q))) (by simp [List.dropWhile_cons]) X₂ hal (I₂.type.andThen (looks_subIn X₂ T.veC)) (ks_ne X₂ I₂ hcl) (by decide) ?_
  refine kxs_callWith (i := "ValueError.__init__") (x := x) rfl (evalArgs_plain ?_)
  refine Calls.spliced_cons ?_
  show wpAny _ _ (eval (.Constant (.str "there is no sign of that name") 0 ⟨9, 25, 9, 56⟩) _) _ _ _
  refine Calls.Constant_str ?_
  show wpAny _ _ (spliced []) _ _ _
  refine Calls.spliced_nil ⟨Heap.get?_push_size _ rfl, ?_⟩
  have kp : ∀ b o, h₂.get? b = some o → (h₂.push (kxs_mw "ValueError.__init__" x)).get? b = some o := fun b o e => Heap.get?_push_of_some _ e
  refine bw_call (x := x) (t0 := t0) ((X₂.keeps kp) _ _ hC) (kp _ _ hx₂) (Heap.get?_push_size _ rfl) (by show 1 ≤ sizeLine; decide) (fun h₃ t1 k₃ hx₃ => ?_)
  have k13 : ∀ b o, b ≠ x → h₁.get? b = some o → h₃.get? b = some o := fun b o n e => k₃ b o n (kp b o (k₂ b o e))
  have X₃ : K.In h₃ := fun b o e => k₃ b o (fun z => by rw [z, hnx] at e; cases e) (kp b o (X₂ b o e))
  have nL : s.heap.objs.size ≠ x := Nat.ne_of_gt (Heap.lt_size hx)
  have hns₃ : h₃.Ns s.heap.objs.size (fun y => ([("self", .ref x), ("name", v)] : List (Str × Value)).reverse.lookup y) := by
    obtain ⟨o, es, ep, e, r⟩ := hns
    exact ⟨o, es, ep, k13 _ _ nL e, r⟩
  refine ks_wpAt_execs_cons (ks_wpAt_Assign_Attr ?_)
  have ld : ∀ {y : Str} {pos : Pos} {u : Value} {A : Around} {E : Value → Shared → Prop} {Q : Value → Shared → Prop} {g : Array GenState} {d : Drawn} {t : Nat} {os : OsState}, (callEnv (ksFn "__init__" "NoSign.__init__" (L2.defArgs sNs) (L2.defBody sNs) (L2.defScope sNs) .none .none doc pm an (.ref cda) ct cc) s.heap.objs.size fI).kindOf y = some .local →
      ([("self", .ref x), ("name", v)] : List (Str × Value)).reverse.lookup y = some u → (y == ("__debug__" : Str)) = false → Q u ⟨h₃, g, d, t, os⟩ →
      wpAny (model prog w) A (eval (.Name y pos) (callEnv (ksFn "__init__" "NoSign.__init__" (L2.defArgs sNs) (L2.defBody sNs) (L2.defScope sNs) .none .none doc pm an (.ref cda) ct cc) s.heap.objs.size fI)) Q E ⟨h₃, g, d, t, os⟩ :=
    fun h1 h2 h3 hQ => wpAny_Name (wpAny_loadName_local hk h1 hns₃ h2 hQ) h3
  refine wpAt_of_wpAny (ld rfl rfl (by decide) ?_)
  refine ld rfl rfl (by decide) ?_
  refine set_plain X₃ (ox := excO C t1) (od := none) ⟨hx₃, rfl, rfl, trivial⟩ T.sa ?_
  refine exc_osa X₃ hx₃ hcl (show refsVE (.ref C :: bm) = true from hbm) rfl T.noN (fun h₄ tk₄ dx k₄ dn dne hx₄ hn₄ => ?_)
  refine wpAt_of_wpAny (wpAny_execs_nil (hq h₄ tk₄ dx ⟨fun b o hb e => k₄ b o hb (k13 b o hb (k b o e)), ⟨t1, hx₄⟩, ?_, dne, hn₄⟩))
  have z0 : s.heap.objs.size < h₃.objs.size := hns₃.lt
  exact Nat.le_of_lt (Nat.lt_of_lt_of_le z0 dn)
/-- a made error with its name -/
structure NsMade (h h' : Heap) (e C d : Addr) (v : Value) : Prop where
  keep : ∀ b o, h.get? b = some o → h'.get? b = some o
  new : h.objs.size ≤ e
  obj : ∃ oe vs, h'.get? e = some oe ∧ oe.cls = .ref C ∧ oe.dict = some d ∧ oe.data = .fields vs ∧ vs[1]? = some .none
  dbig : h.objs.size ≤ d
  dne : d ≠ e
  ns : h'.Ns1 d (fun y => if y = "name" then some v else none)
theorem ns_made (T : NsTxt prog K C CT fI cc cda) {v : Value} {mb : Str → Option Value} (X : K.In s.heap) (G : s.heap.Ns mainGlobals mg) (GB : s.heap.Ns builtinsNs mb) (hB : ∀ y : Str, y ≠ "__name__" → mb y = bootBuiltins y) (hlim : s.heap.NoLimit) (hroom : A.depth + 1 < recursionLimit)
    (hq : ∀ h' tk e d, NsMade s.heap h' e C d v → R (.ok (.ret (.ref e))) { s with heap := h', toks := tk }) :
    codeAny (model prog w) A (.call (.ref C) ⟨[v], []⟩) R s := by
  obtain ⟨nm, q, N, bs, bm, sn, sub, ab, col, dd, k0, k1, k2, k3, k5, hC, hbm, hal⟩ := T.cls
  obtain ⟨hp, g, dr, tk, os⟩ := s
  have kk : ∀ b o, hp.get? b = some o → ((hp.push (kdv_tup [v])).push (excO C hp.objs.size)).get? b = some o := fun b o e => Heap.get?_push_of_some _ (Heap.get?_push_of_some _ e)
  have hgt : ((hp.push (kdv_tup [v])).push (excO C hp.objs.size)).get? (hp.objs.size + 1) = some (excO C hp.objs.size) := by heap_get
  have hnx : K.lookup (hp.objs.size + 1) = none := by
    cases e : K.lookup (hp.objs.size + 1) with
    | none => rfl
    | some o =>
      have z : hp.get? (hp.objs.size + 1) = some o := X _ _ e
      exact absurd (Nat.lt_of_succ_lt (Heap.lt_size z)) (Nat.lt_irrefl _)
  refine call_own PySem.F.excBase_ValueError (fun Y => refsVE_contains Y bm hbm) (X _ _ hC) (looks_findIn X T.iC) (fun self => bind_fn X self T.tC) (by show 1 ≤ sizeLine; decide) ?_
  refine ns_init (s := ⟨(hp.push (kdv_tup [v])).push (excO C hp.objs.size), g, dr, tk, os⟩) T (X.keeps kk) (G.keeps kk) (GB.keeps kk) hB (hlim.keeps kk) hgt hnx ?_ fun h' tk' dx ⟨k', ⟨t1, hx⟩, dn, dne, hns⟩ => ?_
  · show A.depth + 1 < recursionLimit
    exact hroom
  · have old : ∀ b o, hp.get? b = some o → h'.get? b = some o := fun b o e => k' b o (Nat.ne_of_lt (Nat.lt_succ_of_lt (Heap.lt_size e))) (kk b o e)
    have z : hp.objs.size + 1 + 1 ≤ dx := by
      first
        | (simpa only [Heap.size_push] using dn)
        | exact dn
        | (have q := dn; rw [Heap.size_push, Heap.size_push] at q; exact q)
    exact ⟨rfl, hq h' tk' (hp.objs.size + 1) dx ⟨old, Nat.le_succ _, ⟨_, _, hx, rfl, rfl, rfl, rfl⟩, Nat.le_trans (Nat.le_trans (Nat.le_succ _) (Nat.le_succ _)) z, dne, hns⟩⟩
end
end NsX
end PySem
namespace K1
open PySem PySem.Spec PyProof.Rows L2
theorem relO_ns {v : V} {v' : Value} (r : RelV v v') (f : Str) : RelO (List.lookup f [(("name" : Str), v)]) (if f = "name" then some v' else none) := by
  by_cases hw : f = "name"
  · subst hw
    rw [if_pos rfl, show List.lookup ("name" : Str) [(("name" : Str), v)] = some v by simp [List.lookup]]
    exact r
  · rw [if_neg hw, show List.lookup f [(("name" : Str), v)] = none by simp [List.lookup, show (f == ("name" : Str)) = false by simpa using hw]]
    trivial
section
variable {X : Cx} {C CT fI cc cda : Addr}
/-- NoSign(e) -/
def tMkNs (C : Addr) (ta : TA) : L2.St → Hp → XK → Prop := fun σ H Q => ta σ H fun vs H1 => ∃ v, vs = [v] ∧ ∀ d, H1 d = none → Q (.ref C) (some d) (upd H1 d (.xd [(("name" : Str), v)]))
theorem pmk_ns {a : Expr} {ta : TA} {p pos : Pos} {k : Nat} (T : PySem.NsX.NsTxt X.prog X.K C CT fI cc cda) (gC : X.mg "NoSign" = some (.ref C)) (hr : Room k X.A) (ha : PA X [a] ta) (hg : Gl X "NoSign" := by rfl)
    (he : starEach (a :: []) X.env = (false, eval a X.env) :: starEach [] X.env := by rfl) (hpl : (backTo pos (starEach [] X.env)).any (·.1) = false := by rfl) :
    PMk X (.Call (.Name "NoSign" p) [a] [] pos) (tMkNs C ta) := by
  intro pins s σ H Q I h
  refine wpAny_Call_Name_kw (ld_glob I hg gC ?_)
  refine PySem.W.callWith_K (h₀ := X.base) I.ok.mod.kin T.kC (thn (ha.run pos pins s σ H _ I h) fun us s1 hh => ?_) he hpl
  obtain ⟨vs, H1, I1, r1, v, ev, q1⟩ := hh
  subst ev
  refine ⟨I1.kIn, ?_⟩
  cases r1 with
  | cons rv rn =>
    rename_i v' us'
    cases rn
    show wpAny _ _ (call (.ref C) [v']) _ _ _
    have hlim := I1.nolimit
    obtain ⟨mb, hb1, hb2⟩ := I1.mod.blt
    have hgl := I1.mod.glob.keeps I1.bk
    have hbl := hb1.keeps I1.bk
    have hk := I1.kIn
    obtain ⟨hp, g, dr, tk, os⟩ := s1
    refine wpAny_call (PySem.NsX.ns_made T hk hgl hbl hb2 hlim (by have := hr.dp; omega) fun h' tk' e d M => ?_)
    show MkP X pins σ Q (.ref e) ⟨h', g, dr, tk', os⟩
    obtain ⟨oe, fv, hoe, hc, hd, hdat, h1⟩ := M.obj
    have hns := M.ns
    obtain ⟨G', g1, g2⟩ := restrict h' fun b => decide (b ≠ e)
    have gk : ∀ b, b ≠ e → G'.get? b = h'.get? b := fun b hb => g1 b (decide_eq_true hb)
    have ge : G'.get? e = none := g2 e (by simp)
    have old : ∀ b o, hp.get? b = some o → G'.get? b = some o := fun b o q => (gk b (Nat.ne_of_lt (Nat.lt_of_lt_of_le (Heap.lt_size q) M.new))).trans (M.keep b o q)
    have ob : ObjOk X.prog X.w (upd H1 d (.xd [(("name" : Str), v)])) G' d (.xd [(("name" : Str), v)]) :=
      ⟨_, hns.at (fun o q => (gk d M.dne).trans q), fun f => relO_ns rv f⟩
    have J : Inv X pins σ (upd H1 d (.xd [(("name" : Str), v)])) ⟨G', g, dr, tk', os⟩ := I1.laid (t' := tk') old M.dbig ob
    refine ⟨e, oe, fv, ⟨G', g, dr, tk', os⟩, _, .ref C, some d, rfl, J, fun b o q => ?_, ge, hoe, ⟨hc, hd⟩, hdat, h1, ?_, rfl, I1.bare, raises_own T.exC T.tyC, q1 d (I1.hok.fresh M.dbig)⟩
    · by_cases hb : b = e
      · have q' : G'.get? b = some o := q
        rw [hb, ge] at q'
        cases q'
      · exact (gk b hb).symm.trans q
    · rw [upd_ne (Ne.symm M.dne)]
      exact I1.hok.fresh M.new
end
end K1
set_option Elab.async false
set_option linter.all false
set_option maxRecDepth 100000
set_option maxHeartbeats 4000000
namespace K1
open PySem PySem.Spec PyProof.Rows L2
/-- a method by its name -/
structure Mt (P : Program) (w : World) (K : PySem.W.Frag) (mg : Str → Option Value) (base : Heap) (CX : CXT) (C : Addr) (m : Str) (k : Nat) (ps : List Str) (sp : Sp) : Prop where
  ex : ∃ (f : Addr) (fd : FuncData), FnOk P w K mg base CX k f fd ps sp ∧ Meth K C m f ∧ Binds K fd ps []
def hasD (ns : List Str) : PyData → Bool
  | .str s => decide (s ∈ ns)
  | _ => false
def spRows (K : PySem.W.Frag) (C : Addr) : Sp := fun vs H Q _ => ∃ (p rt td : Addr) (xs : List V) (ns : List Str), vs = [.ref p] ∧ SgAt K C H p rt td xs ns ∧ ∀ l, H l = none → Q (.ref l) (upd H l (.lst xs))
def spHas (K : PySem.W.Frag) (C : Addr) : Sp := fun vs H Q _ => ∃ (p rt td : Addr) (xs : List V) (ns : List Str) (v : V) (d : PyData), vs = [.ref p, v] ∧ SgAt K C H p rt td xs ns ∧ Dm K H v d ∧ Q (.bl (hasD ns d)) H
/-- kind (i = 1), many (i = 2) -/
def spAt (K : PySem.W.Frag) (C CS : Addr) (i : Nat) : Sp := fun vs H Q E => ∃ (p rt td : Addr) (xs : List V) (ns : List Str) (v : V) (d : PyData), vs = [.ref p, v] ∧ SgAt K C H p rt td xs ns ∧ Dm K H v d ∧
  (hasD ns d = true → ∀ s, v = .str s → ∃ (b : Addr) (ys : List V) (y : V), valV (kvsOf ns xs) (Sum.inr s : Key) = some (.ref b) ∧ SqT K H b ys ∧ ys[i]? = some y ∧ Q y H) ∧
  (hasD ns d = false → ∀ dd, H dd = none → E (.ref CS) (some dd) (upd H dd (.xd [(("name" : Str), v)])))
def spLen (K : PySem.W.Frag) (C : Addr) : Sp := fun vs H Q _ => ∃ (p rt td : Addr) (xs : List V) (ns : List Str), vs = [.ref p] ∧ SgAt K C H p rt td xs ns ∧ Q (.int xs.length) H
/-- what isinstance(x, Signs) asks -/
structure SgI (K : PySem.W.Frag) (C : Addr) : Prop where
  ha : PySem.W.findIn K (.ref C) "__class__" = some (some (.builtin "object.__class__"))
  hn : PySem.W.specialIn K (.builtin "object.__class__") "__get__" = some (some (.builtin "getset_descriptor.__get__"))
  htk : PySem.W.takesIn K (.builtin "object.__class__") = some true
  hm : PySem.W.mroIn K C (.type "object") = some true
  own : PySem.W.kitOne K (.ref C) (.ref C) = some true
  tNone : PySem.W.kitOne K (.type "NoneType") (.ref C) = some false
  tBool : PySem.W.kitOne K (.type "bool") (.ref C) = some false
  tInt : PySem.W.kitOne K (.type "int") (.ref C) = some false
  tStr : PySem.W.kitOne K (.type "str") (.ref C) = some false
  tList : PySem.W.kitOne K (.type "list") (.ref C) = some false
  tTup : PySem.W.kitOne K (.type "tuple") (.ref C) = some false
  tDict : PySem.W.kitOne K (.type "dict") (.ref C) = some false
theorem SgI.no {K : PySem.W.Frag} {C : Addr} (I : SgI K C) : ∀ d : PyData, PySem.W.kitOne K (.type (tyOf d)) (.ref C) = some false
  | .none => I.tNone
  | .bool _ => I.tBool
  | .int _ => I.tInt
  | .str _ => I.tStr
  | .list _ => I.tList
  | .tuple _ => I.tTup
  | .dict _ => I.tDict
/-- == with data | with signs -/
def spSame (K : PySem.W.Frag) (C : Addr) : Sp := fun vs H Q _ => ∃ (p rt td : Addr) (xs : List V) (ns : List Str) (w : V), vs = [.ref p, w] ∧ SgAt K C H p rt td xs ns ∧
  ((∃ d, Dm K H w d ∧ Q (.bl false) H) ∨
    ∃ (p2 rt2 td2 : Addr) (xs2 : List V) (ns2 : List Str) (ds ds2 : List PyData), w = .ref p2 ∧ SgAt K C H p2 rt2 td2 xs2 ns2 ∧ DpAll K H xs ds ∧ DpAll K H xs2 ds2 ∧ SeqAt.shaped (.tuple ds) = true ∧ SeqAt.shaped (.tuple ds2) = true ∧ Q (.bl (PyData.eqv (.tuple ds) (.tuple ds2))) H)
section
variable {P : Program} {w : World} {K : PySem.W.Frag} {mg : Str → Option Value} {base : Heap}
theorem scRows : FnScope ["self"] ["self"] (defScope sRows) := ⟨rfl, rfl, rfl, by decide +kernel, rfl, by decide +kernel, by decide +kernel⟩
theorem ok_rows {f C : Addr} {fd : FuncData} (F : Fun K "rows" "Signs.rows" sRows f fd) (T : Cs mg) (G : SgC K C) : FnOk P w K mg base CX0 1 f fd ["self"] (spRows K C) := by
  refine F.ok scRows (fun vs H Q E h => ?_) (fun cdv A outer s H vs Q E hr h => ?_)
  · obtain ⟨p, rt, td, xs, ns, rfl, _⟩ := h
    rfl
  · obtain ⟨p, rt, td, xs, ns, rfl, S, k⟩ := h
    obtain ⟨⟨dx, hp⟩, hrt, htd, _⟩ := S
    refine ⟨_, pss_one (ps_ret (pe_callTy call_list_of (by rfl) T.list boot_list (pa_cons (pe_fld (pv 0) rfl) pa_nil))), ?_⟩
    exact ⟨_, rfl, p, C, dx, _, _, rfl, hp, G.cl, G.nR, sgF_rows rt td, rt, xs, rfl, .inr hrt, k⟩
theorem scHas : FnScope ["self", "name"] ["self", "name"] (defScope sHas) := ⟨rfl, rfl, rfl, by decide +kernel, rfl, by decide +kernel, by decide +kernel⟩
theorem ok_has {f C : Addr} {fd : FuncData} (F : Fun K "has" "Signs.has" sHas f fd) (T : Cs mg) (G : SgC K C) : FnOk P w K mg base CX0 1 f fd ["self", "name"] (spHas K C) := by
  refine F.ok scHas (fun vs H Q E h => ?_) (fun cdv A outer s H vs Q E hr h => ?_)
  · obtain ⟨p, rt, td, xs, ns, v, d, rfl, _⟩ := h
    rfl
  · obtain ⟨p, rt, td, xs, ns, v, d, rfl, S, hd, k⟩ := h
    obtain ⟨⟨dx, hp⟩, hrt, htd, hl, _⟩ := S
    have hu' := hu_of hr
    refine ⟨_, pss_one (ps_ret (pe_and (pe_callB call_isi (by rfl) T.isi boot_isinstance (pa_cons (pv 1) (pa_cons (pe_bltn (v := .ty "str") (by rfl) T.str boot_str rfl) pa_nil)))
      (pe_one (pe_cmp (pc_din hu' (pv 1) (pe_fld (pv 0) rfl)))))), ?_⟩
    refine ⟨_, rfl, _, _, _, _, _, rfl, .ty "str", tyx_of hd, kit_str d, _, rfl, ?_⟩
    cases d with
    | str s =>
      have ev : v = .str s := by
        cases hd with
        | dat h => cases h; rfl
      subst ev
      refine ⟨_, rfl, _, rfl, p, C, dx, _, _, rfl, hp, G.cl, G.nT, sgF_table rt td, td, _, rfl, DGet.k (k := Sum.inr s) htd, ?_⟩
      rw [val_kvs s ns xs hl]
      exact k
    | _ => exact k
theorem scKind : FnScope ["self", "name"] ["self", "name"] (defScope sKind) := ⟨rfl, rfl, rfl, by decide +kernel, rfl, by decide +kernel, by decide +kernel⟩
theorem scMany : FnScope ["self", "name"] ["self", "name"] (defScope sMany) := ⟨rfl, rfl, rfl, by decide +kernel, rfl, by decide +kernel, by decide +kernel⟩
theorem ok_kind {f C CS CT fI cc cda : Addr} {fd : FuncData} (F : Fun K "kind" "Signs.kind" sKind f fd) (MH : Mt P w K mg base CX0 C "has" 1 ["self", "name"] (spHas K C)) (G : SgC K C) (N : PySem.NsX.NsTxt P K CS CT fI cc cda) (gN : mg "NoSign" = some (.ref CS)) : FnOk P w K mg base (L2.CX P w) 5 f fd ["self", "name"] (spAt K C CS 1) := by
  obtain ⟨fh, fdh, FH, mH, bH⟩ := MH.ex
  refine F.okX scKind (fun vs H Q E h => ?_) (fun cdv A outer s H vs Q E hr h => ?_)
  · obtain ⟨p, rt, td, xs, ns, v, d, rfl, _⟩ := h
    rfl
  · obtain ⟨p, rt, td, xs, ns, v, d, rfl, S, hd, k1, k2⟩ := h
    have hu' := hu_of hr
    refine ⟨_, pss_cons (ps_if (pt_not (pt_val (pe_meth (pv 0) G.cl mH FH (hr.mono (by decide)) bH .nil pass0 (pa_cons (pv 1) pa_nil)))) (pss_one (ps_raise rfl (takes_of rfl rfl rfl rfl) (pmk_ns N gN hr (pa_cons (pv 1) pa_nil)))) pss_nil)
      (pss_one (ps_ret (pe_ix ix_tup (pe_dget hu' (pe_fld (pv 0) rfl) (pv 1) (fun _ _ => rfl)) pe_int (fun _ _ => rfl)))), ?_⟩
    obtain ⟨⟨dx, hp⟩, hrt, htd, hl, _⟩ := id S
    refine ⟨_, rfl, p, dx, _, rfl, hp, sgF_no rt td (by decide +kernel) (by decide +kernel), _, rfl, p, rt, td, xs, ns, v, d, rfl, S, hd, _, rfl, ?_⟩
    refine ite2 (fun h0 => ?_) (fun h0 => ?_)
    · exact ⟨_, rfl, _, rfl, fun dd hdd => k2 (by simpa using h0) dd hdd⟩
    · have h1 : hasD ns d = true := by
        have h2 : ¬ (!hasD ns d) = true := h0
        simpa using h2
      cases d with
      | str s =>
        have ev : v = .str s := by
          cases hd with
          | dat h => cases h; rfl
        subst ev
        obtain ⟨b, ys, y, hv, hb, hy, q⟩ := k1 h1 s rfl
        refine ⟨_, rfl, p, C, dx, _, _, rfl, hp, G.cl, G.nT, sgF_table rt td, _, rfl, td, .ref b, rfl, ?_, b, ys, 1, y, rfl, rfl, hb, atI_nat (j := 1) hy, q⟩
        rw [← hv]
        exact DGet.k (k := Sum.inr s) htd
      | _ => cases h1
theorem ok_many {f C CS CT fI cc cda : Addr} {fd : FuncData} (F : Fun K "many" "Signs.many" sMany f fd) (MH : Mt P w K mg base CX0 C "has" 1 ["self", "name"] (spHas K C)) (G : SgC K C) (N : PySem.NsX.NsTxt P K CS CT fI cc cda) (gN : mg "NoSign" = some (.ref CS)) : FnOk P w K mg base (L2.CX P w) 5 f fd ["self", "name"] (spAt K C CS 2) := by
  obtain ⟨fh, fdh, FH, mH, bH⟩ := MH.ex
  refine F.okX scMany (fun vs H Q E h => ?_) (fun cdv A outer s H vs Q E hr h => ?_)
  · obtain ⟨p, rt, td, xs, ns, v, d, rfl, _⟩ := h
    rfl
  · obtain ⟨p, rt, td, xs, ns, v, d, rfl, S, hd, k1, k2⟩ := h
    have hu' := hu_of hr
    refine ⟨_, pss_cons (ps_if (pt_not (pt_val (pe_meth (pv 0) G.cl mH FH (hr.mono (by decide)) bH .nil pass0 (pa_cons (pv 1) pa_nil)))) (pss_one (ps_raise rfl (takes_of rfl rfl rfl rfl) (pmk_ns N gN hr (pa_cons (pv 1) pa_nil)))) pss_nil)
      (pss_one (ps_ret (pe_ix ix_tup (pe_dget hu' (pe_fld (pv 0) rfl) (pv 1) (fun _ _ => rfl)) pe_int (fun _ _ => rfl)))), ?_⟩
    obtain ⟨⟨dx, hp⟩, hrt, htd, hl, _⟩ := id S
    refine ⟨_, rfl, p, dx, _, rfl, hp, sgF_no rt td (by decide +kernel) (by decide +kernel), _, rfl, p, rt, td, xs, ns, v, d, rfl, S, hd, _, rfl, ?_⟩
    refine ite2 (fun h0 => ?_) (fun h0 => ?_)
    · exact ⟨_, rfl, _, rfl, fun dd hdd => k2 (by simpa using h0) dd hdd⟩
    · have h1 : hasD ns d = true := by
        have h2 : ¬ (!hasD ns d) = true := h0
        simpa using h2
      cases d with
      | str s =>
        have ev : v = .str s := by
          cases hd with
          | dat h => cases h; rfl
        subst ev
        obtain ⟨b, ys, y, hv, hb, hy, q⟩ := k1 h1 s rfl
        refine ⟨_, rfl, p, C, dx, _, _, rfl, hp, G.cl, G.nT, sgF_table rt td, _, rfl, td, .ref b, rfl, ?_, b, ys, 2, y, rfl, rfl, hb, atI_nat (j := 2) hy, q⟩
        rw [← hv]
        exact DGet.k (k := Sum.inr s) htd
      | _ => cases h1
theorem scLen : FnScope ["self"] ["self"] (defScope sLen) := ⟨rfl, rfl, rfl, by decide +kernel, rfl, by decide +kernel, by decide +kernel⟩
theorem ok_len {f C : Addr} {fd : FuncData} (F : Fun K "__len__" "Signs.__len__" sLen f fd) (T : Cs mg) (G : SgC K C) : FnOk P w K mg base CX0 1 f fd ["self"] (spLen K C) := by
  refine F.ok scLen (fun vs H Q E h => ?_) (fun cdv A outer s H vs Q E hr h => ?_)
  · obtain ⟨p, rt, td, xs, ns, rfl, _⟩ := h
    rfl
  · obtain ⟨p, rt, td, xs, ns, rfl, S, k⟩ := h
    obtain ⟨⟨dx, hp⟩, hrt, htd, _⟩ := S
    refine ⟨_, pss_one (ps_ret (pe_callB call_len_seq (by rfl) T.len PySem.boot_len (pa_cons (pe_fld (pv 0) rfl) pa_nil))), ?_⟩
    exact ⟨_, rfl, p, C, dx, _, _, rfl, hp, G.cl, G.nR, sgF_rows rt td, rt, xs, rfl, .inr hrt, k⟩
theorem scEq : FnScope ["self", "other"] ["self", "other"] (defScope sEq) := ⟨rfl, rfl, rfl, by decide +kernel, rfl, by decide +kernel, by decide +kernel⟩
theorem ok_same {f C : Addr} {fd : FuncData} (F : Fun K "__eq__" "Signs.__eq__" sEq f fd) (T : Cs mg) (G : SgC K C) (GI : SgI K C) (gC : mg "Signs" = some (.ref C)) : FnOk P w K mg base CX0 1 f fd ["self", "other"] (spSame K C) := by
  refine F.ok scEq (fun vs H Q E h => ?_) (fun cdv A outer s H vs Q E hr h => ?_)
  · obtain ⟨p, rt, td, xs, ns, w, rfl, _⟩ := h
    rfl
  · obtain ⟨p, rt, td, xs, ns, w, rfl, S, k⟩ := h
    obtain ⟨⟨dx, hp⟩, hrt, htd, _⟩ := S
    refine ⟨_, pss_one (ps_ret (pe_and (pe_callB call_isi (by rfl) T.isi boot_isinstance (pa_cons (pv 1) (pa_cons (pe_glob (v := .ref C) (by rfl) gC rfl) pa_nil)))
      (pe_one (pe_cmpR (op_eqD hr.units) (pe_fld (pv 0) rfl) (pe_fld (pv 1) rfl) (nomark _))))), ?_⟩
    rcases k with ⟨d, hd, q⟩ | ⟨p2, rt2, td2, xs2, ns2, ds, ds2, rfl, ⟨⟨dx2, hp2⟩, hrt2, htd2, _⟩, h1, h2, s1, s2, q⟩
    · refine ⟨_, rfl, _, _, _, _, _, rfl, .own C, tyx_of hd, GI.no d, _, rfl, ?_⟩
      exact iteF q
    · refine ⟨_, rfl, _, _, _, _, _, rfl, .own C, .base (.ins hp2 G.cl GI.ha GI.hn GI.htk GI.hm), GI.own, _, rfl, ?_⟩
      refine iteT ?_
      exact ⟨_, rfl, p, C, dx, _, _, rfl, hp, G.cl, G.nR, sgF_rows rt td, _, rfl, p2, C, dx2, _, _, rfl, hp2, G.cl, G.nR, sgF_rows rt2 td2, .tuple ds, .tuple ds2, .tup hrt h1, .tup hrt2 h2, s1, s2, q⟩
end
end K1
set_option Elab.async false
set_option linter.all false
set_option maxRecDepth 100000
set_option maxHeartbeats 4000000
/-! sorted(xs, key=f), f a def of the program or a lambda, its answers texts -/
namespace SrtF
open PySem PySem.Spec PyProof.Rows L2 PySem.W
section
variable {X : Cx} {pins : List (Addr × Obj)} {σ : L2.St} {H : Hp} {s : Shared} {T : Type}
/-- one call of the key: the heap grows, a text comes -/
def KTurn (X : Cx) (A : Around) (σ : L2.St) (H : Hp) (f : Value) (pins0 : List (Addr × Obj)) (x : V) (z : Str) : Prop :=
  ∀ (pins : List (Addr × Obj)) (s' : Shared) (H' : Hp) (u : Value), (∀ p ∈ pins0, p ∈ pins) → Inv X pins σ H' s' → Same H H' → RelV x u →
    wpAny (model X.prog X.w) A (call f [u]) (fun v s'' => ∃ H'', Inv X pins σ H'' s'' ∧ Same H' H'' ∧ ∃ t, v = .str z t) (fun _ _ => False) s'
theorem no_lt {a b : Nat} (h : a < b) (h2 : b ≤ a) : False := by omega
theorem mine_ok (I : Inv X pins σ H s) {b : Addr} (hb : s.heap.objs.size ≤ b) : (b ∈ X.ex ∨ X.s_0.heap.objs.size ≤ b) ∧ b ≠ X.env.locals ∧ (∀ x c, X.env.cells.lookup x = some c → c ≠ b) ∧ (∀ p ∈ X.pn ++ pins, p.1 ≠ b) ∧ b ∉ X.fs := by
  have h0 : X.s_0.heap.objs.size ≤ s.heap.objs.size := Nat.le_trans I.ok.above (Nat.le_of_lt I.lt)
  refine ⟨.inr (Nat.le_trans h0 hb), fun z => ?_, fun x c e z => ?_, fun p hp z => ?_, fun z => I.nofs hb z⟩
  · have := I.lt
    rw [← z] at this
    exact no_lt this hb
  · obtain ⟨v, o, ho, _⟩ := I.cell x c e
    have := Heap.lt_size ho
    rw [z] at this
    exact no_lt this hb
  · have := Heap.lt_size (I.pin p hp).1
    rw [z] at this
    exact no_lt this hb
/-- two objects of ours, untracked, have changed: the one is tracked from now on -/
theorem inv_two {a kS : Addr} {o : HO} {h' : Heap} {t' : Nat} (I : Inv X pins σ H s) (oa : (a ∈ X.ex ∨ X.s_0.heap.objs.size ≤ a) ∧ a ≠ X.env.locals ∧ (∀ x c, X.env.cells.lookup x = some c → c ≠ a) ∧ (∀ p ∈ X.pn ++ pins, p.1 ≠ a))
    (ok : (kS ∈ X.ex ∨ X.s_0.heap.objs.size ≤ kS) ∧ kS ≠ X.env.locals ∧ (∀ x c, X.env.cells.lookup x = some c → c ≠ kS) ∧ (∀ p ∈ X.pn ++ pins, p.1 ≠ kS)) (na : H a = none) (nk : H kS = none)
    (k : ∀ b o, b ≠ a → b ≠ kS → s.heap.get? b = some o → h'.get? b = some o) (new : ObjOk X.prog X.w (upd H a o) h' a o) : Inv X pins σ (upd H a o) { s with heap := h', toks := t' } := by
  have nt : ∀ b u, H b = some u → b ≠ a ∧ b ≠ kS := fun b u e => ⟨fun z => (by rw [z, na] at e; cases e), fun z => (by rw [z, nk] at e; cases e)⟩
  refine I.step (g' := s.gens) (d' := s.drawn) (ch := [a, kS]) (fun b hb => ?_) (fun b o _ _ hc e _ => ?_) (fun b o _ _ hc e _ => ⟨o.slots, ?_⟩) (fun b o hc _ n => ?_)
    (fun b o hc e => ⟨o, ?_⟩) (fun b xs e => ?_) (fun b o xs e => ?_) (fun b ps e => ⟨#[], ?_⟩) (fun m hm => ?_) (fun b u e => ?_) I.bare
  · rcases List.mem_cons.mp hb with rfl | hb
    · exact oa
    · rcases List.mem_cons.mp hb with rfl | hb
      · exact ok
      · cases hb
  · exact k b o (fun z => hc (by simp [z])) (fun z => hc (by simp [z])) e
  · exact k b o (fun z => hc (by simp [z])) (fun z => hc (by simp [z])) e
  · rw [upd_ne (fun z => hc (by simp [z]))]
    exact n
  · exact k b o (fun z => hc (by simp [z])) (fun z => hc (by simp [z])) e
  · rw [upd_ne (nt b _ e).1]
    exact e
  · rw [upd_ne (nt b _ e).1]
    exact e
  · rw [upd_ne (nt b _ e).1, e]
    simp
  · obtain ⟨o, es, ep, ho, r⟩ := hm
    exact ⟨o, es, ep, k _ o (Ne.symm oa.2.1) (Ne.symm ok.2.1) ho, r⟩
  · by_cases hb : b = a
    · rw [hb, upd_same] at e
      cases e
      rw [hb]
      exact new
    · rw [upd_ne hb] at e
      refine (I.hok b u e).stay (fun c v hc q => k c v ?_ ?_ q) (fun c q => ?_) fun c xs q => ?_
      · rcases hc with z | z
        · rw [z]
          exact hb
        · exact (nt c _ z).1
      · rcases hc with z | z
        · rw [z]
          exact (nt b u e).2
        · exact (nt c _ z).2
      · rw [upd_ne (nt c _ q).1]
        exact q
      · rw [upd_ne (nt c _ q).1]
        exact q
/-- what is sorted: by the texts -/
def leK (key : T → Str) (a b : T) : Bool := dataLe false (fun t => PyData.str (key t)) a b
theorem alike_strs (zs : List Str) : AllAlike (zs.map PyData.str) := fun d hd d' hd' => by
  obtain ⟨z, _, rfl⟩ := List.mem_map.mp hd
  obtain ⟨z', _, rfl⟩ := List.mem_map.mp hd'
  rfl
theorem sortable_strs (zs : List Str) : Sortable (zs.map PyData.str) := .inr fun d hd => by
  obtain ⟨z, _, rfl⟩ := List.mem_map.mp hd
  exact ⟨nofun, nofun⟩
theorem each_vals {xs : List (V × T)} : ∀ {its : List Value}, Vals (xs.map Prod.fst) its → EachIs (fun v (p : V × T) => RelV p.1 v) its xs := by
  induction xs with
  | nil => intro its h; cases h; exact .nil
  | cons p r ih =>
    intro its h
    cases h with
    | cons h t => exact .cons h (ih t)
theorem vals_each {xs : List (V × T)} : ∀ {its : List Value}, EachIs (fun v (p : V × T) => RelV p.1 v) its xs → Vals (xs.map Prod.fst) its := by
  induction xs with
  | nil => intro its h; cases h; exact .nil
  | cons p r ih =>
    intro its h
    cases h with
    | cons h t => exact .cons h (ih t)
theorem each_at {α β : Type} {R : α → β → Prop} : ∀ {as : List α} {bs : List β}, EachIs R as bs → ∀ {i : Nat} {a : α}, as[i]? = some a → ∃ b, bs[i]? = some b ∧ R a b
  | _, _, .nil, i, a, h => by simp at h
  | _, _, .cons h t, 0, a, e => ⟨_, rfl, by
      have e' := Option.some.inj e
      rw [← e']
      exact h⟩
  | _, _, .cons h t, i + 1, a, e => each_at t (i := i) e
theorem sorted_key {l : Addr} {f : Value} {key : T → Str} {ps : List (V × T)} {Q : VK} (I : Inv X pins σ H s) (hl : SqL X.K H l (ps.map Prod.fst)) (ht : ∀ x, Builtin.«list.sort» ⟨[.ref x], [(Str.ofString "key", f)]⟩ = ksk_tree x f false)
    (hu : X.A.units + 8 < cLine) (hturn : ∀ p ∈ ps, KTurn X X.A.in1.in1 σ H f pins p.1 (key p.2))
    (hq : ∀ p H', Same H H' → H' p = none → Q (.ref p) (upd H' p (.lst ((ps.mergeSort (leK fun p => key p.2)).map Prod.fst)))) :
    wpAny (model X.prog X.w) X.A (call (.builtin "sorted") [.ref l] [(Str.ofString "key", f)]) (EP X pins σ Q) X.xe s := by
  obtain ⟨its, rv, pl, hz⟩ := I.list hl
  have eR := each_vals rv
  have hZ : its.length ≤ sizeLine := by rw [← rv.length]; exact hz
  have hlen : its.length = ps.length := eR.length
  refine sorted_of_sort pl.isList hZ (ksk_s1 _ _) (fun _ => ksk_l1 _ _) fun E' => ?_
  rw [ht]
  -- the list and what holds the keys are ours
  have hC := copyHeap_at s.heap its
  have ha : s.heap.objs.size + 1 < (copyHeap s.heap its).objs.size := Heap.lt_size hC
  obtain ⟨e1, ho1⟩ : ∃ e1, ((copyHeap s.heap its).update (s.heap.objs.size + 1) (Obj.mapSeq fun _ => (#[] : Array Value))).get? (s.heap.objs.size + 1) = some (seqObj "list" #[] e1) := ⟨_, get?_update_seq hC fun _ => #[]⟩
  have hkS : (((copyHeap s.heap its).update (s.heap.objs.size + 1) (Obj.mapSeq fun _ => (#[] : Array Value))).push (seqObj "tuple" its.toArray 0)).objs.size = (copyHeap s.heap its).objs.size + 1 := by rw [size_push', Heap.size_update]
  unfold ksk_tree
  refine wpAny_bind (listItems_at hC rfl ?_)
  refine wpAny_bind (listUpdate_at hC rfl ?_ (by rw [List.size_toArray]; exact hZ) (Nat.zero_le _))
  refine wpAny_bind (seqEpoch_at ho1 rfl ?_)
  refine wpAny_bind (wpAny_newTuple ?_ (by show its.length ≤ _; exact hZ))
  refine wpAny_bind (wpAny_newList ?_ (Nat.zero_le _))
  refine wpAny_holding ?_
  generalize ekS : (((copyHeap s.heap its).update (s.heap.objs.size + 1) (Obj.mapSeq fun _ => (#[] : Array Value))).push (seqObj "tuple" its.toArray 0)).objs.size = kS at hkS ⊢
  generalize ea : s.heap.objs.size + 1 = a at hC ha ho1 ekS ⊢
  have bigA : s.heap.objs.size ≤ a := by rw [← ea]; exact Nat.le_succ _
  have hka : a ≠ kS := by
    rw [hkS]
    exact Nat.ne_of_lt (Nat.lt_succ_of_lt ha)
  have bigK : s.heap.objs.size ≤ kS := by
    rw [hkS]
    exact Nat.le_succ_of_le (Nat.le_trans bigA (Nat.le_of_lt ha))
  have old : ∀ b o, s.heap.get? b = some o → ((((copyHeap s.heap its).update a (Obj.mapSeq fun _ => (#[] : Array Value))).push (seqObj "tuple" its.toArray 0)).push (seqObj "list" #[] 0)).get? b = some o := fun b o e => by
    have e' := sorting_copy_old (vs := its) e
    rw [ea] at e'
    exact e'
  have atK : ((((copyHeap s.heap its).update a (Obj.mapSeq fun _ => (#[] : Array Value))).push (seqObj "tuple" its.toArray 0)).push (seqObj "list" #[] 0)).get? kS = some (seqObj "list" #[] 0) := by
    rw [← ekS]
    exact Heap.get?_push_size _ rfl
  have atA : ((((copyHeap s.heap its).update a (Obj.mapSeq fun _ => (#[] : Array Value))).push (seqObj "tuple" its.toArray 0)).push (seqObj "list" #[] 0)).get? a = some (seqObj "list" #[] e1) :=
    Heap.get?_push_of_some _ (Heap.get?_push_of_some _ ho1)
  generalize hG : ((((copyHeap s.heap its).update a (Obj.mapSeq fun _ => (#[] : Array Value))).push (seqObj "tuple" its.toArray 0)).push (seqObj "list" #[] 0)) = G at old atK atA
  show wpAny _ _ _ _ _ { s with heap := G }
  have I2 : Inv X pins σ H { s with heap := G } := I.kept (t' := s.toks) old
  have okA := mine_ok I bigA
  have okK := mine_ok I bigK
  have nA : H a = none := I.hok.fresh bigA
  have nK : H kS = none := I.hok.fresh bigK
  have nocell : ∀ (xs : Array Value) (n : Nat) v, (seqObj "list" xs n).data ≠ .cell v := fun xs n v z => by cases z
  -- the keys, one by one
  unfold ksk_rest
  refine wpAny_bind (wpAny_rule ?_)
  first
    | rw [List.forIn_toArray]
    | (rw [← Array.forIn_toList]; simp only [List.toList_toArray])
    | rw [← Array.forIn_toList]
  refine wpAny_bind (ksk_fold (fun i s' => ∃ (kA : Array Value) (e : Nat) (H' : Hp), Inv X (pins ++ [(kS, seqObj "list" kA e), (a, seqObj "list" #[] e1)]) σ H' s' ∧ Same H H' ∧ EachIs (fun v (p : V × T) => ∃ t, v = Value.str (key p.2) t) kA.toList (ps.take i)) its 0 _ ?start ?step ?done)
  case start =>
    refine ⟨#[], 0, H, I2.pins_of fun p hp => ?_, Same.refl H, by rw [List.take_zero]; exact .nil⟩
    rcases List.mem_append.mp hp with hp | hp
    · exact I2.pin p (List.mem_append_right _ hp)
    · rcases List.mem_cons.mp hp with rfl | hp
      · exact ⟨atK, nK, okK.2.1, okK.2.2.2.2, nocell _ _⟩
      · rcases List.mem_cons.mp hp with rfl | hp
        · exact ⟨atA, nA, okA.2.1, okA.2.2.2.2, nocell _ _⟩
        · cases hp
  case step =>
    rintro j x s' hx ⟨kA, e, H', J, sm, hk⟩
    simp only [Nat.zero_add] at hk ⊢
    have hj : j < its.length := (List.getElem?_eq_some_iff.mp hx).1
    obtain ⟨p, hpj, hrx⟩ := each_at eR hx
    have hz2 : kA.size ≤ its.length := by
      have h1 := hk.length
      rw [Array.length_toList, List.length_take] at h1
      omega
    refine wpAny_bind (wpAny_attempt (wpAny_mono (hturn p (List.mem_of_getElem? hpj) _ s' H' x (fun q hq => List.mem_append_left _ hq) J sm hrx) (fun v s'' he => ?_) fun _ _ hF => hF.elim))
    obtain ⟨H'', J2, sm2, t, rfl⟩ := he
    try dsimp only
    obtain ⟨nk2, zk, _, _, _⟩ := J2.pin (kS, seqObj "list" kA e) (by simp)
    obtain ⟨na2, za, _, _, _⟩ := J2.pin (a, seqObj "list" #[] e1) (by simp)
    dsimp only at nk2 zk na2 za
    have s1 := Heap.SameBut.update s''.heap kS (Obj.mapSeq (·.push (Value.str (key p.2) t)))
    obtain ⟨c2, hc2⟩ : ∃ c2, (s''.heap.update kS (Obj.mapSeq (·.push (Value.str (key p.2) t)))).get? kS = some (seqObj "list" (kA.push (Value.str (key p.2) t)) c2) := ⟨_, get?_update_seq nk2 (·.push (Value.str (key p.2) t))⟩
    have ek : ps.take (j + 1) = ps.take j ++ [p] := by rw [List.take_add_one, hpj]; simp
    have ea2 : (kA.push (Value.str (key p.2) t)).toList = kA.toList ++ [Value.str (key p.2) t] := by simp
    refine wpAny_bind (listUpdate_at nk2 rfl ?_ (Nat.le_trans hz2 hZ) (Nat.le_trans (Nat.le_of_eq (Array.size_push ..)) (Nat.succ_le_succ (Nat.le_trans hz2 hZ))))
    have J3 : Inv X pins σ H'' s'' := J2.pins_of fun p hp => J2.pin p (by
      rcases List.mem_append.mp (List.mem_append_right X.pn hp) with z | z <;> simp [z])
    have J4 : Inv X pins σ H'' { s'' with heap := s''.heap.update kS (Obj.mapSeq (·.push (Value.str (key p.2) t))), toks := s''.toks } := J3.turned (it := kS) (fun b o hb e => (s1.2 b hb).trans e) zk okK.2.1 okK.1 okK.2.2.1 okK.2.2.2.1
    refine wpAny_pure ⟨rfl, kA.push (Value.str (key p.2) t), c2, H'', J4.pins_of fun q hq => ?_, sm.trans sm2, ?_⟩
    · rcases List.mem_append.mp hq with hq | hq
      · exact J4.pin q (List.mem_append_right _ hq)
      · rcases List.mem_cons.mp hq with rfl | hq
        · exact ⟨hc2, zk, okK.2.1, okK.2.2.2.2, nocell _ _⟩
        · rcases List.mem_cons.mp hq with rfl | hq
          · exact ⟨(s1.2 a hka).trans na2, za, okA.2.1, okA.2.2.2.2, nocell _ _⟩
          · cases hq
    · rw [ea2, ek]
      exact each_snoc ⟨t, rfl⟩ hk
  case done =>
    rintro s' ⟨kA, e, H', J, sm, hk⟩
    have e3 : ps.take (0 + its.length) = ps := List.take_of_length_le (by omega)
    rw [e3] at hk
    obtain ⟨nk', zk, _, _, _⟩ := J.pin (kS, seqObj "list" kA e) (by simp)
    obtain ⟨na', za, _, _, _⟩ := J.pin (a, seqObj "list" #[] e1) (by simp)
    dsimp only at nk' zk na' za
    have hsz : kA.size = its.length := by
      have h1 := hk.length
      rw [Array.length_toList] at h1
      omega
    have hk' : EachIs (fun v k => ∃ as, Reads s'.heap v k as) kA.toList (ps.map fun p => PyData.str (key p.2)) := by
      clear hsz
      generalize hkl : kA.toList = kL at hk
      clear hkl
      clear e3 eR rv hlen hl hturn hq hz
      induction hk with
      | nil => exact .nil
      | cons h _ ih =>
        obtain ⟨t, rfl⟩ := h
        exact .cons ⟨[], Reads.str _ t⟩ ih
    try dsimp only
    refine wpAny_bind (listItems_at nk' rfl ?_)
    obtain ⟨G2, g1, g2⟩ := restrict s'.heap fun b => decide (b ≠ kS)
    have hal : AllAlike (ps.map fun p => PyData.str (key p.2)) := by
      have := alike_strs (ps.map fun p => key p.2)
      rw [List.map_map] at this
      exact this
    have hsk : Sortable (ps.map fun p => PyData.str (key p.2)) := by
      have := sortable_strs (ps.map fun p => key p.2)
      rw [List.map_map] at this
      exact this
    refine keyH_end (κ := dataKind s'.heap (ps.map fun p => PyData.str (key p.2))) (h₁ := G2) (fun b o hb q => ?_) (g2 kS (by simp)) nk' na' (Ne.symm hka) (SortsAt.data (s := s') hk' hal hsk fun d hd => ?_) hsz hZ fun h3 tk3 c k3 n3 => ⟨rfl, ?_⟩
    · by_cases hbk : b = kS
      · rw [hbk, g2 kS (by simp)] at q
        cases q
      · rw [g1 b (by simpa using hbk)] at q
        exact q
    · obtain ⟨p, _, rfl⟩ := List.mem_map.mp hd
      show X.A.units + 2 + _ < cLine
      have : (PyData.str (key p.2)).depth ≤ 1 := by simp [PyData.depth]
      omega
    · have ko : KeyedOut false (ps.map fun p => PyData.str (key p.2)) its (sortVals (dataKind s'.heap (ps.map fun p => PyData.str (key p.2))) false kA.toList its) := ⟨s'.heap, kA.toList, hal, rfl, hk'⟩
      have eo := keyedOut_each (fun p : V × T => PyData.str (key p.2)) ko eR
      have J3 : Inv X pins σ H' s' := J.pins_of fun p hp => J.pin p (by
        rcases List.mem_append.mp (List.mem_append_right X.pn hp) with z | z <;> simp [z])
      have vo := vals_each eo
      have lo : (sortVals (dataKind s'.heap (ps.map fun p => PyData.str (key p.2))) false kA.toList its).length = its.length := (ko.length (by rw [List.length_map]; exact hlen.symm))
      have J5 : Inv X pins σ (upd H' a (.lst ((ps.mergeSort (leK fun p => key p.2)).map Prod.fst))) { s' with heap := h3, toks := tk3 } := by
        refine inv_two J3 ⟨okA.1, okA.2.1, okA.2.2.1, okA.2.2.2.1⟩ ⟨okK.1, okK.2.1, okK.2.2.1, okK.2.2.2.1⟩ za zk (fun b o h1 h2 q => k3 b o h1 ?_) ⟨?_, _, c, vo, n3⟩
        · rw [g1 b (by simpa using h2)]
          exact q
        · have vl := vo.length
          rw [lo] at vl
          exact Nat.le_trans (Nat.le_of_eq vl) hZ
      exact ⟨.ref a, _, J5, rfl, hq a H' sm za⟩
end
end SrtF
set_option Elab.async false
set_option linter.all false
set_option maxRecDepth 100000
set_option maxHeartbeats 4000000
namespace SrtF
open PySem PySem.Spec PyProof.Rows L2 PySem.W
section
variable {X : Cx} {T : Type}
theorem in1_in1 {k : Nat} {A : Around} (r : Room (k + 2) A) : Room k A.in1.in1 := (Room.in1 (Room.in1 r))
/-- sorted(xs, key=f), f a def: what it asks of each call -/
def rSortF (K : PySem.W.Frag) (T : Type) (sp : Sp) (f : Addr) : List V → List V → Hp → VK → Prop := fun vs zs H Q => ∃ (l : Addr) (ps : List (V × T)) (key : T → Str), vs = [.ref l] ∧ zs = [.ref f] ∧ SqL K H l (ps.map Prod.fst) ∧
  (∀ p ∈ ps, ∀ H', Same H H' → sp [p.1] H' (fun v H'' => v = .str (key p.2) ∧ Same H' H'') C8.E0) ∧ ∀ p H', Same H H' → H' p = none → Q (.ref p) (upd H' p (.lst ((ps.mergeSort (leK fun p => key p.2)).map Prod.fst)))
theorem cr_sortF {k : Nat} {f : Addr} {fd : FuncData} {a : Str} {sp : Sp} (F : FnOk X.prog X.w X.K X.mg X.base C8.CX0 k f fd [a] sp) (hr : Room (k + 2) X.A) (hb : Binds X.K fd [a] []) :
    CallRK X (.builtin "sorted") [Str.ofString "key"] (rSortF X.K T sp f) := by
  intro pins s σ H vs zs us ws Q I rx rz h
  obtain ⟨l, ps, key, rfl, rfl, hl, hp, q⟩ := h
  obtain ⟨u, rfl, ru⟩ := vals1 rx
  obtain ⟨w1, rfl, rw1⟩ := vals1 rz
  obtain rfl : u = Value.ref l := ru
  obtain rfl : w1 = Value.ref f := rw1
  have hun := hr.un
  refine sorted_key I hl (fun _ => ksk_t1 _ _) (by omega) (fun p hpm => ?_) q
  intro pins' s' H' u hin J sm ru
  have hbd := hb s' [u] J.kIn rfl
  refine wpAny_call (codeAny_mono (F.run X.A.in1.in1 X.stack s' H' ⟨[u], []⟩ [u] [p.1] (fun v H'' => v = .str (key p.2) ∧ Same H' H'') C8.E0 (in1_in1 hr) J.env0.in1.in1 (by simpa using hbd) (.cons ru .nil) (hp p hpm H' sm)) fun r s'' hq => ?_)
  cases r with
  | error e => exact hq.elim
  | ok fl =>
    cases fl with
    | ret u =>
      obtain ⟨v, H'', J2, rv, rfl, s2⟩ := J.after hq
      obtain ⟨t, rfl⟩ := rv
      exact ⟨H'', J2, s2, t, rfl⟩
    | next => exact False.elim hq
    | brk => exact False.elim hq
    | cont => exact False.elim hq
/-- sorted(e, key=lambda a: body): what it asks -/
def tSortL (K : PySem.W.Frag) (T : Type) (TT : List (Addr × Str)) (tb : TE) (t : TA) : TE := fun σ H Q => t σ H fun vs H1 => LamX.Tabs TT H1 ∧ ∀ H2, LamX.ExtN H1 H2 → LamX.Tabs TT H2 →
  ∃ (l : Addr) (ps : List (V × T)) (key : T → Str), vs = [.ref l] ∧ SqL K H2 l (ps.map Prod.fst) ∧ (∀ p ∈ ps, ∀ H', Same H2 H' → tb [some p.1] H' (fun v H'' => v = .str (key p.2) ∧ Same H' H'')) ∧
  ∀ p H', Same H2 H' → H' p = none → Q (.ref p) (upd H' p (.lst ((ps.mergeSort (leK fun p => key p.2)).map Prod.fst)))
theorem pe_sortL {TT : List (Addr × Str)} {c P : Addr} {k : Nat} {a : Str} {params : Arguments} {body e : Expr} {scope : Scope} {tb : TE} {t : TA} {p lpos kpos pos : Pos} (hg : Gl X "sorted") (hm : X.mg "sorted" = none) (ha : PA X [e] t)
    (TB : LamX.TabB X.base X.mg c P) (hcode : X.env.code = .ref c) (hmT : (P, X.env.qual ++ "<lambda>") ∈ TT) (hu : ∀ p ∈ TT, p.1 = P → p.2 = X.env.qual ++ "<lambda>") (hr : Room (k + 3) X.A) (hdef : defaultsOf params X.env = ([], []))
    (S : FnScope [a] [a] scope) (hst : X.stack = X.env :: X.outer) (hfr : X.env.frame = some X.env.locals)
    (hbind : ∀ (q : Str) (cl : List (Str × Addr)) (pm cv ctv u : Value), bindArgs (PySem.W.kla_fn "<lambda>" q params body scope cl pm cv ctv) ⟨[u], []⟩ = pure [(a, u)])
    (hbody : ∀ (A : Around) (outer : List Env) (s : Shared) (H : Hp) (f c' : Addr), Room k (A.deeper (envOfC (X.env.qual ++ "<lambda>") scope s.heap.objs.size f (.ref c'))) → PE (cxOf C8.CX0 X.prog X.w X.K X.mg X.base [a] (X.env.qual ++ "<lambda>") scope f (.ref c') A outer s H C8.E0) body tb)
    (hclo : cloFrom X.env.cells scope.names [] = [] := by rfl)
    (he : backTo pos (starEach [e] X.env) = (false, eval e X.env) :: backTo pos (starEach [] X.env) := by rfl) (hpl : (backTo pos (starEach [e] X.env)).any (·.1) = false := by rfl) :
    PE X (.Call (.Name "sorted" p) [e] [⟨some "key", .Lambda params body scope lpos, kpos⟩] pos) (tSortL X.K T TT tb t) := by
  refine ⟨fun pins s σ H Q I h => ?_⟩
  refine wpAny_Call_Name_kw (ld_blt I hg hm (by decide +kernel : bootBuiltins "sorted" = some (.builtin "sorted")) ?_ (by decide) (by decide))
  refine PyProof.Rows.callWith_kw (thn (ha.run pos pins s σ H _ I h) fun us s1 ⟨vs, H1, I1, r1, hT, q1⟩ => ?_) he hpl rfl rfl
  show wpAny _ _ (evalAll ((do let v ← eval (.Lambda params body scope lpos) X.env; standAt pos; pure v) :: [])) _ _ s1
  have hun := hr.un
  refine wpAny_evalAll_cons (wpAny_bind (LamX.lam_make2 I1 TB hcode hmT hu hT hdef (fun y hy e => absurd e (S.nofree y hy)) fun f c' pm ctv H2 s2 I2 eN T2 hf hfn hfs hco => wpAny_bind (wpAny_standAt (wpAny_pure (wpAny_evalAll_nil ?_)))))
  obtain ⟨l, ps, key, rfl, hl, hp, q⟩ := q1 H2 eN T2
  obtain ⟨u, rfl, ru⟩ := vals1 r1
  obtain rfl : u = Value.ref l := ru
  rw [hclo] at hf
  have nfl : f ≠ X.env.locals := fun z => hfs (by
    rw [hst]
    unfold frs
    rw [List.filterMap_cons, hfr, z]
    exact List.mem_cons_self)
  have nff : f ∉ X.fs := fun z => hfs (by
    rw [hst]
    unfold frs
    rw [List.filterMap_cons, hfr]
    exact List.mem_cons_of_mem _ z)
  have J : Inv X (pins ++ [(f, PySem.W.kla_obj "<lambda>" (X.env.qual ++ "<lambda>") params body scope [] pm c' ctv)]) σ H2 s2 := I2.pins_of fun p hp => by
    rcases List.mem_append.mp hp with hp | hp
    · exact I2.pin p (List.mem_append_right _ hp)
    · obtain rfl := List.mem_singleton.mp hp
      exact ⟨hf, hfn, nfl, nff, fun v z => by cases z⟩
  refine wpAny_mono (sorted_key (T := T) J hl (fun _ => ksk_t1 _ _) (by omega) (fun p hpm => ?_) q) (fun v s' ⟨v', H', J', rv, q'⟩ => ⟨v', H', J'.unpinned, rv, q'⟩) fun _ _ z => z
  intro pins' s' H' u hin J' sm ru
  obtain ⟨of1, _⟩ := J'.pin _ (List.mem_append_right X.pn (hin _ (List.mem_append_right pins (List.mem_singleton.mpr rfl))))
  dsimp only at of1
  obtain ⟨⟨oc, vs, t, hoc, hdc, hvc⟩, _, _⟩ := J'.hok c' _ (sm _ _ hco)
  have e0 := J'.env0.in1.in1
  have lim : s'.heap.NoLimit := J'.nolimit
  have hr2 : Room (k + 1) X.A.in1.in1 := in1_in1 hr
  have rc : codeAny (model X.prog X.w) X.A.in1.in1 (.call (.ref f) ⟨[u], []⟩) (CR C8.CX0 X.stack X.prog X.w H' s' (fun v H'' => v = .str (key p.2) ∧ Same H' H'') C8.E0) s' := by
    refine PySem.W.kla_callFunE hr2.depth of1 rfl S.co S.gen rfl ⟨c', oc, vs, t, rfl, hoc, hdc, hvc⟩ ?_
    rw [hbind]
    refine wpAny_pure (wpAny_newFunctionEnv_cells S.kind (fun y hy => ?_) fun env he s1 x => ?_)
    · obtain rfl := List.mem_singleton.mp hy
      rcases S.par a (List.mem_singleton.mpr rfl) with q | q
      · exact .inl q
      · exact .inr ⟨q, PySem.W.cellsFrom_some _ _ _ (.inl q)⟩
    subst he
    refine ⟨lim.keeps x.toInCall.keep, ?_⟩
    have I0 : Inv (cxOf C8.CX0 X.prog X.w X.K X.mg X.base [a] (X.env.qual ++ "<lambda>") scope f (.ref c') X.A.in1.in1 X.stack s' H' C8.E0) [] (L2.start [a] [p.1]) H' s1 := inv_start (ps := [a]) (us := [u]) (vs := [p.1]) S hr2.hd e0 rfl (.cons ru .nil) x
    refine PySem.W.kla_codeExpr (wpAny_mono ((hbody _ _ s' H' f c' (hr2.deeper _)).run [] s1 (L2.start [a] [p.1]) H' _ I0 (hp p hpm H' sm)) (fun v s'' hs => ?_) fun e s'' hs => hs)
    obtain ⟨w', H'', K', rv, q⟩ := hs
    exact ⟨w', H'', K'.os, K'.bare, K'.base, K'.hok, rv, q⟩
  refine wpAny_call (codeAny_mono rc fun r s'' hq => ?_)
  cases r with
  | error e => exact (show False from hq).elim
  | ok fl =>
    cases fl with
    | ret u =>
      obtain ⟨v, H'', J2, rv, rfl, s2⟩ := J'.after hq
      obtain ⟨t, rfl⟩ := rv
      exact ⟨H'', J2, s2, t, rfl⟩
    | next => exact False.elim hq
    | brk => exact False.elim hq
    | cont => exact False.elim hq
end
end SrtF
set_option Elab.async false
set_option linter.all false
set_option maxRecDepth 100000
set_option maxHeartbeats 4000000
/-! max(xs, default=d) of ints; a list against an empty one; extend by a tuple -/
namespace PySem.SeqAt
open PySem PySem.Spec PySem.F
open MeetsSeq MeetsSeq2 MeetsSeq3 SeqRoads2 PySem.AutoSeq1
set_option maxRecDepth 8000 in
theorem extend_tupAny (l : Addr) (items : Array Value) (n : Nat) (b : Addr) (items2 : Array Value) (n2 : Nat) (dd : Option Addr) (sl : Array (Option Value)) (hs0 : ¬(!items.isEmpty && Builtin.List.listTooLong (items.size + items2.size)) = true) (hs1 : items.size ≤ sizeLine) (hs2 : items.size + items2.size ≤ sizeLine + 1) :
    Meets (Builtin.«list.extend» ⟨[.ref l, .ref b], []⟩) (fun _ R s => s.heap.get? l = some { cls := .type "list", dict := none, data := .seq items n, slots := #[] } ∧ s.heap.get? b = some { cls := .type "tuple", dict := dd, data := .seq items2 n2, slots := sl } ∧ R (.ok (.ret Value.none)) { s with heap := s.heap.update l (Obj.mapSeq fun x => x ++ items2), toks := s.toks }) :=
  .of_wp fun prog w A R s h => by
    obtain ⟨hp, g, d, tk, os⟩ := s; obtain ⟨hl, hb, h⟩ := h; have f1 := idx_int; have f2 := AutoSeq1.sub_tuple_tuple; have f3 := AutoSeq1.sub_list_list; have f4 := AutoSeq1.sub_tuple_list; have f5 := AutoSeq1.sub_list_tuple;
    have hz' : (items ++ items2).size ≤ sizeLine + 1 := by rw [Array.size_append]; exact hs2
    wp_walk using (wpAny_updateSeq hl rfl (hz := hs1) (_hz' := hz')), wpAny_loadPart' hl, wpAny_loadPart' hb; exact ⟨_, rfl, h⟩
end PySem.SeqAt
namespace SrtF
open PySem PySem.Spec PyProof.Rows L2 PySem.W
section
variable {X : Cx}
theorem reads_ints {h : Heap} : ∀ {vs : List Value} {ns : List Int}, IntsAre vs ns → ReadsAll h vs (ns.map PyData.int) (ns.flatMap fun _ => [])
  | _, _, .nil => .nil
  | _, _, .cons n t r => .cons (.int n t) (reads_ints r)
theorem foldl_max : ∀ (ns : List Int) (n : Int), (ns.foldl max n) ∈ n :: ns ∧ ∀ y ∈ n :: ns, y ≤ ns.foldl max n
  | [], n => ⟨by simp, fun y hy => by simp at hy; simp [hy]⟩
  | m :: ns, n => by
    obtain ⟨h1, h2⟩ := foldl_max ns (max n m)
    rw [List.foldl_cons]
    refine ⟨?_, fun y hy => ?_⟩
    · rcases List.mem_cons.mp h1 with h | h
      · rw [h]
        by_cases q : n ≤ m
        · rw [Int.max_eq_right q]; simp
        · rw [Int.max_eq_left (by omega)]; simp
      · exact List.mem_cons_of_mem _ (List.mem_cons_of_mem _ h)
    · have hb := h2 (max n m) List.mem_cons_self
      rcases List.mem_cons.mp hy with rfl | hy
      · exact Int.le_trans (Int.le_max_left _ _) hb
      · rcases List.mem_cons.mp hy with rfl | hy
        · exact Int.le_trans (Int.le_max_right _ _) hb
        · exact h2 y (List.mem_cons_of_mem _ hy)
theorem dep_ints : ∀ ns : List Int, PyData.depthAll (ns.map PyData.int) ≤ 1
  | [] => by simp [PyData.depthAll]
  | n :: r => by
    have ih := dep_ints r
    simp only [List.map_cons, PyData.depthAll, PyData.depth] at ih ⊢
    omega
/-- the greatest of them, or d -/
def rMaxDf (K : PySem.W.Frag) : List V → List V → Hp → VK → Prop := fun vs zs H Q => ∃ (a : Addr) (ns : List Int) (d : Int), vs = [.ref a] ∧ zs = [.int d] ∧ SqL K H a (ns.map V.int) ∧
  (ns = [] → Q (.int d) H) ∧ ∀ m, m ∈ ns → (∀ y, y ∈ ns → y ≤ m) → Q (.int m) H
theorem cr_maxDf (hc : X.calm = true) (hu : X.A.units + 10 < cLine) : CallRK X (.builtin "max") [Str.ofString "default"] (rMaxDf X.K) := by
  intro pins s σ H vs zs us ws Q I rx rz h
  obtain ⟨a, ns, d, rfl, rfl, hs, q0, q⟩ := h
  obtain ⟨u, rfl, ru⟩ := vals1 rx
  obtain ⟨w1, rfl, rw1⟩ := vals1 rz
  obtain rfl : u = Value.ref a := ru
  obtain ⟨t1, rfl⟩ := rw1
  obtain ⟨its, rv, hl, _⟩ := I.list hs
  have hi := rv.ints
  have dep := dep_ints ns
  refine max_list_default (xs := ns.map PyData.int) (I.ok.hd hc) hl.isList (reads_ints (by simpa using hi)) ⟨fun x hx y hy => ?_, fun x hx => ?_⟩ (by omega) (fun e h' tk hk => ?_) (fun y ys i v h' tk bs e hv r hk => ?_)
  · obtain ⟨n, _, rfl⟩ := List.mem_map.mp hx
    obtain ⟨m, _, rfl⟩ := List.mem_map.mp hy
    rfl
  · obtain ⟨n, _, rfl⟩ := List.mem_map.mp hx
    exact nofun
  · exact ⟨.int d, H, I.kept (t' := tk) hk, ⟨t1, rfl⟩, q0 (by simpa using e)⟩
  · cases ns with
    | nil => cases e
    | cons n ns =>
      cases e
      rw [maxD_ints] at r
      cases r with
      | int i t =>
        obtain ⟨m1, m2⟩ := foldl_max ns n
        exact ⟨.int _, H, I.kept (t' := tk) hk, ⟨t, rfl⟩, q _ m1 m2⟩
/-- xs.extend(t), t a tuple -/
def rExtT (K : PySem.W.Frag) : V → List V → Hp → VK → Prop := fun x vs H Q => ∃ l b xs zs, x = .ref l ∧ vs = [.ref b] ∧ H l = some (.lst xs) ∧ SqT K H b zs ∧ xs.length + zs.length ≤ sizeLine ∧ Q .non (upd H l (.lst (xs ++ zs)))
theorem mt_extT : MtM X "list.extend" (rExtT X.K) := by
  intro pins s σ H x vs v us Q I rx rv h
  obtain ⟨l, b, xs, zs, rfl, rfl, hH, hB, hz, q⟩ := h
  cases rx
  obtain ⟨u, rfl, ru⟩ := rv.one
  cases ru
  obtain ⟨z, its, n, r, hl, e⟩ := I.lstM hH
  obtain ⟨its2, r2, ⟨o, ho, hoc, n2, hd⟩, _⟩ := I.tuple hB
  obtain ⟨oc, od, odt, osl⟩ := o
  dsimp only at hoc hd
  subst hoc hd
  have l1 := r.length
  have l2 := r2.length
  have hsz : its.toArray.size + its2.toArray.size ≤ sizeLine := by rw [List.size_toArray, List.size_toArray]; omega
  have hlong : ¬ (!its.toArray.isEmpty && Builtin.List.listTooLong (its.toArray.size + its2.toArray.size)) = true := by
    rw [notLongL hsz, Bool.and_false]
    exact Bool.false_ne_true
  refine call_meets F.slot_list_extend ⟨_, e, rfl⟩ F.entry_list_extend (F.args_list_extend_2 _ _)
    (SeqAt.extend_tupAny l its.toArray n b its2.toArray n2 od osl hlong (by rw [List.size_toArray]; omega) (by omega)) ⟨e, ho, ?_⟩
  refine ⟨.non, _, I.lset (its' := its ++ its2) hH e (by simp) (r.append r2) ?_, rfl, q⟩
  rw [List.length_append]
  omega
/-- xs == [] -/
def rEqNil (K : PySem.W.Frag) : R2 := fun x y H Q => ∃ (a b : Addr) (xs : List V), x = .ref a ∧ y = .ref b ∧ SqL K H a xs ∧ SqL K H b [] ∧ Q (.bl xs.isEmpty) H
theorem op_eqNil (hu : X.A.units + 10 < cLine) : OpR X (compareOp .Eq) (rEqNil X.K) := by
  intro pins s σ H x y v u Q I rx ry h
  obtain ⟨a, b, xs, rfl, rfl, ha, hb, q⟩ := h
  cases rx
  cases ry
  obtain ⟨its, rv, hl, _⟩ := I.list ha
  obtain ⟨its2, rv2, hl2, _⟩ := I.list hb
  have e2 : its2 = [] := by cases rv2; rfl
  subst e2
  cases xs with
  | nil =>
    have e1 : its = [] := by cases rv; rfl
    subst e1
    exact SeqAt.eq_listAt (e := fun _ => true) hl.isList hl2.isList rfl (by omega) (fun j h1 => absurd h1 (by simp)) ⟨.bl _, H, I, rfl, q⟩
  | cons x xs =>
    refine SeqAt.eq_list_lengthsAt hl.isList hl2.isList ?_ (by omega) ⟨.bl _, H, I, rfl, q⟩
    have := rv.length
    cases its with
    | nil => simp at this
    | cons i its => rfl
end
end SrtF
set_option Elab.async false
set_option linter.all false
set_option maxRecDepth 100000
set_option maxHeartbeats 4000000
namespace K1
open PySem PySem.Spec PyProof.Rows L2
/-! ### defs that are run where no repr is under way -/
structure FnG (P : Program) (w : World) (K : PySem.W.Frag) (mg : Str → Option Value) (base : Heap) (k : Nat) (f : Addr) (fd : FuncData) (ps : List Str) (sp : Sp) : Prop where
  len : ∀ vs H Q E, sp vs H Q E → vs.length = ps.length
  run : ∀ (A : Around) (outer : List Env) (s : Shared) (H : Hp) (us : List Value) (vs : List V) (Q : VK) (E : XK), A.guards = some [] → Room k A → Env0 P w K mg base A outer s H → BindsTo s fd ⟨us, []⟩ (ps.zip us) → Vals vs us → sp vs H Q E →
    codeAny (model P w) A (.call (.ref f) ⟨us, []⟩) (CR CX0 outer P w H s Q E) s
/-- a def with its code object -/
structure FunC (K : PySem.W.Frag) (x : Str) (st : Stmt) (f : Addr) (fd : FuncData) (c : Addr) : Prop where
  ex : ∃ (oc : Value) (od : Option Addr) (kV doc pm : Value) (an : Option Addr) (ct : Value) (osl : Array (Option Value)),
    fd = PySem.W.fnOf x x (defArgs st) (defBody st) (defScope st) .none kV doc pm an (.ref c) ct ∧ K.lookup f = some ⟨oc, od, .func fd, osl⟩ ∧ PySem.W.codeIn K (.ref c) x = true
  kp : PySem.W.keepIn K (.ref f) = true
/-- a def by its name -/
structure Dg (P : Program) (w : World) (K : PySem.W.Frag) (mg : Str → Option Value) (base : Heap) (x : Str) (k : Nat) (ps : List Str) (sp : Sp) : Prop where
  ex : ∃ (f : Addr) (fd : FuncData), FnG P w K mg base k f fd ps sp ∧ mg x = some (.ref f) ∧ PySem.W.keepIn K (.ref f) = true ∧ Binds K fd ps []
section
variable {P : Program} {w : World} {K : PySem.W.Frag} {mg : Str → Option Value} {base : Heap}
theorem FunC.okG {x : Str} {st : Stmt} {f c : Addr} {fd : FuncData} {N ps : List Str} {k : Nat} {sp : Sp} (F : FunC K x st f fd c) (S : FnScope N ps (defScope st)) (len : ∀ vs H Q E, sp vs H Q E → vs.length = ps.length)
    (hbody : ∀ (A : Around) (outer : List Env) (s : Shared) (H : Hp) (vs : List V) (Q : VK) (E : XK), A.guards = some [] → Room k (A.deeper (envOfC x (defScope st) s.heap.objs.size f (.ref c))) → sp vs H Q E →
      ∃ t, PSs (cxOf CX0 P w K mg base N x (defScope st) f (.ref c) A outer s H E).nox (defBody st) t ∧ t { nx := fun _ H' => Q .non H', rt := Q } (L2.start N vs) H) : FnG P w K mg base (k + 1) f fd ps sp := by
  obtain ⟨oc, od, kV, doc, pm, an, ct, osl, rfl, lk, hcd⟩ := F.ex
  refine ⟨len, fun A outer s H us vs Q E hg hr e0 hb r hsp => LamX.run_ofS lk hcd S hr e0 hb r (len _ _ _ _ hsp) fun hr' => ?_⟩
  obtain ⟨t, h, q⟩ := hbody A outer s H vs Q E hg hr' hsp
  exact ⟨t, h.nox, q⟩
end
section
variable {X : Cx}
theorem pe_dg {x : Str} {k j : Nat} {ps : List Str} {sp : Sp} {e : Expr} {es : List Expr} {t : TA} {p pos : Pos} (D : Dg X.prog X.w X.K X.mg X.base x k ps sp) (hgd : X.A.guards = some []) (hr : Room j X.A) (ha : PA X (e :: es) t)
    (hk : k ≤ j := by decide) (hg : Gl X x := by rfl) (hdb : (x == ("__debug__" : Str)) = false := by decide) (he : starEach (e :: es) X.env = (false, eval e X.env) :: starEach es X.env := by rfl) (hpl : (backTo pos (starEach es X.env)).any (·.1) = false := by rfl) :
    PE X (.Call (.Name x p) (e :: es) [] pos) (fun σ H Q => t σ H fun vs H1 => sp vs H1 Q E0) := by
  obtain ⟨f, fd, F, hm, kp, hb⟩ := D.ex
  refine ⟨fun pins s σ H Q I h => ?_⟩
  refine wpAny_Call_Name_kw (ld_glob I hg hm ?_ hdb)
  refine PySem.W.callWith_K (h₀ := X.base) I.ok.mod.kin kp (thn (ha.run pos pins s σ H _ I h) fun us s1 hh => ?_) he hpl
  obtain ⟨vs, H1, I1, r, q⟩ := hh
  refine ⟨I1.kIn, ?_⟩
  have hl := F.len _ _ _ _ q
  have bd := hb s1 us I1.kIn (by
    rw [List.append_nil, ← r.length]
    exact hl)
  rw [List.append_nil] at bd
  refine wpAny_call (codeAny_mono (F.run X.A X.stack s1 H1 us vs Q E0 hgd (hr.mono hk) I1.env0 bd r q) fun r s' hq => ?_)
  cases r with
  | error e => exact pass0 pins σ H1 s1 e s' I1 hq
  | ok fl =>
    cases fl with
    | ret u => exact I1.after hq
    | next => exact False.elim hq
    | brk => exact False.elim hq
    | cont => exact False.elim hq
/-! ### repr of data -/
/-- data, or an empty dict -/
inductive Dx (K : PySem.W.Frag) (H : Hp) : V → PyData → Prop where
  | dat {v : V} {d : PyData} (h : Dp K H v d) (l : PyData.canLay0 d = true) : Dx K H v d
  | emp {a : Addr} (h : H a = some (.dK [])) : Dx K H (.ref a) (.dict [])
/-- data of a list or tuple; or a pair of a text and a thing -/
def rRepr (K : PySem.W.Frag) : List V → Hp → VK → Prop := fun xs H Q => ∃ (a : Addr) (d : PyData), xs = [.ref a] ∧
  ((Dp K H (.ref a) d ∧ PyData.canLay0 d = true) ∨ ∃ x y dy, d = .tuple [.str x, dy] ∧ SqT K H a [.str x, y] ∧ Dx K H y dy) ∧ PyData.showable d = true ∧ PyData.depth d ≤ 100 ∧ (PyData.shown d).length ≤ sizeLine ∧ Q (.str (PyData.shown d)) H
theorem dx_reads {pins : List (Addr × Obj)} {σ : L2.St} {H : Hp} {s : Shared} (I : Inv X pins σ H s) {v : V} {d : PyData} {u : Value} (h : Dx X.K H v d) (r : RelV v u) : ∃ as, Reads s.heap u d as ∧ (PyData.hasDict d = true → sysModules ∉ as) := by
  cases h with
  | dat h l =>
    obtain ⟨as, q⟩ := Dp.reads I d v u h r
    exact ⟨as, q, fun z => by
      rw [PyData.hasDict_of_canLay d l] at z
      cases z⟩
  | @emp a h =>
    cases r
    obtain ⟨_, hsys, vs, kv, o, es, ep, e1, e2, e3⟩ := (show ObjOk X.prog X.w H s.heap a (.dK []) from I.hok a _ h)
    have v0 : vs = [] := by
      cases kv
      rfl
    subst v0
    have z0 : es.toList = [] := by
      have z := e3.2.2.1
      cases q : es.toList with
      | nil => rfl
      | cons p r =>
        rw [q] at z
        cases z
    refine ⟨_, Reads.dict (kvs := []) e1 e2.1 e3.1 (by rw [z0]; exact .nil) (by rw [z0]; exact .nil), fun _ hm => ?_⟩
    have ha : sysModules = a := by simpa using hm
    rw [← ha] at hsys
    simp at hsys
theorem call_repr (hg : X.A.guards = some []) (hu : X.A.units + 101 < cLine) : CallR X (.builtin "repr") (rRepr X.K) := by
  intro pins s σ H xs us Q I r h
  obtain ⟨a, d, rfl, hd, hs, hdep, hlen, q⟩ := h
  rw [Vals.ref1 r]
  have fin : ∀ as, Reads s.heap (.ref a) d as → (PyData.hasDict d = true → sysModules ∉ as) → wpAny (model X.prog X.w) X.A (call (.builtin "repr") [.ref a]) (EP X pins σ Q) X.xe s := fun as rd hm =>
    repr_of_reads' rd hs hm hg (by omega) (fun _ _ e => e) (fun h' u tk hk => ⟨.str (PyData.shown d), H, I.kept hk, ⟨u, rfl⟩, q⟩) hlen
  rcases hd with ⟨hd, hl⟩ | ⟨x, y, dy, rfl, ht, hy⟩
  · obtain ⟨as, rd⟩ := Dp.reads I d (.ref a) (.ref a) hd rfl
    exact fin as rd fun z => by
      rw [PyData.hasDict_of_canLay d hl] at z
      cases z
  · obtain ⟨its, rv, ⟨o, ho, hc, n, hd⟩, _⟩ := I.tuple ht
    obtain ⟨u1, u2, rfl, r1, r2⟩ := vals2 rv
    obtain ⟨t, rfl⟩ := r1
    obtain ⟨bs, q2, m2⟩ := dx_reads I hy r2
    refine fin _ (Reads.tuple ho hc hd (ReadsAll.cons (Reads.str x t) (ReadsAll.cons q2 ReadsAll.nil))) fun z hm => ?_
    have z' : PyData.hasDict dy = true := by simpa [PyData.hasDict, PyData.hasDictAll] using z
    exact m2 z' (by simpa using hm)
end
end K1
set_option Elab.async false
set_option linter.all false
set_option maxRecDepth 100000
set_option maxHeartbeats 4000000
namespace K1
open PySem PySem.Spec PyProof.Rows L2
/-! ### the law called, where no repr is under way -/
def oTab : Obj := { cls := .none, data := .fields #[] }
/-- what is tracked at the call: the script (where the written part doesn't hold it), the tables -/
def hp0 (K : PySem.W.Frag) (a : Addr) (T : List Addr) (o : Obj) (xs : List V) : Hp := fun b => if b = a then (if K.lookup a = none then some (.frz o (.lst xs)) else none) else if b ∈ T then some (.tbl #[]) else none
section
variable {K : PySem.W.Frag} {a : Addr} {T : List Addr} {o : Obj} {xs : List V}
theorem hp0_cases (b : Addr) : hp0 K a T o xs b = none ∨ (b ∈ T ∧ b ≠ a ∧ hp0 K a T o xs b = some (.tbl #[])) ∨ (b = a ∧ K.lookup a = none ∧ hp0 K a T o xs b = some (.frz o (.lst xs))) := by
  unfold hp0
  by_cases h1 : b = a
  · by_cases h2 : K.lookup a = none
    · exact .inr (.inr ⟨h1, h2, by rw [if_pos h1, if_pos h2]⟩)
    · exact .inl (by rw [if_pos h1, if_neg h2])
  · by_cases h2 : b ∈ T
    · exact .inr (.inl ⟨h2, h1, by rw [if_neg h1, if_pos h2]⟩)
    · exact .inl (by rw [if_neg h1, if_neg h2])
theorem hp0_tab {b : Addr} (h : b ∈ T) (n : b ≠ a) : hp0 K a T o xs b = some (.tbl #[]) := by
  unfold hp0
  rw [if_neg n, if_pos h]
end
theorem law_callG {P : Program} {w : World} {K : PySem.W.Frag} {mg mb : Str → Option Value} {k : Nat} {fa a : Addr} {cs : List (Addr × Addr)} {fd : FuncData} {x : Str} {sp : Sp} {st : Shared} {us : List Value} {ns : List Int}
    (hK : K.In st.heap) (hN : st.heap.Ns mainGlobals mg) (hB : st.heap.Ns builtinsNs mb) (hBB : ∀ y : Str, y ≠ "__name__" → mb y = bootBuiltins y) (hL : st.heap.NoLimit) (hG : st.gens = #[])
    (tO : ∀ p ∈ cs, st.heap.get? p.2 = some oTab) (tK : ∀ p ∈ cs, K.lookup p.2 = none) (tC : ∀ p ∈ cs, PySem.W.CodeHd st.heap p.1 p.2)
    (hM : ∃ (m : Addr) (om : Obj), mg "__builtins__" = some (.ref m) ∧ m ≠ builtinsNs ∧ st.heap.get? m = some om ∧ om.cls = .type "module" ∧ om.dict = some builtinsNs ∧ om.data = .plain)
    (hA : st.heap.get? a = some { cls := .type "list", data := .seq us.toArray }) (hI : IntsAre us ns) (hl : ns.length ≤ sizeLine) (hr : Room k callerA)
    (F : ∀ base : Heap, K.In base → base.Ns mainGlobals mg → (∀ p ∈ cs, LamX.TabB base mg p.1 p.2) → FnG P w K mg base k fa fd [x] sp) (bd : ∀ (s : Shared) (u : Value), BindsTo s fd ⟨[u], []⟩ [(x, u)])
    (hsp : ∀ H : Hp, (∀ p ∈ cs, H p.2 = some (.tbl #[])) → SqL K H a (ns.map V.int) → sp [.ref a] H (fun v _ => v = .bl true) fun _ _ _ => False) :
    codeAny (model P w) callerA (.call (.ref fa) ⟨[.ref a], []⟩) (fun r s' => r = .ok (.ret (.bool true)) ∧ OldK st.heap s'.heap ∧ s'.os = st.os ∧ AllBare s'.gens) st := by
  have rel := vals_ints hI
  have lenU := hI.length
  generalize hT : cs.map (·.2) = T
  have inT : ∀ p ∈ cs, p.2 ∈ T := fun p hp => hT ▸ List.mem_map.mpr ⟨p, hp, rfl⟩
  have atT : ∀ b ∈ T, st.heap.get? b = some oTab := fun b hb => by
    rw [← hT] at hb
    obtain ⟨p, hp, rfl⟩ := List.mem_map.mp hb
    exact tO p hp
  have offT : ∀ b ∈ T, K.lookup b = none := fun b hb => by
    rw [← hT] at hb
    obtain ⟨p, hp, rfl⟩ := List.mem_map.mp hb
    exact tK p hp
  have naT : ∀ b ∈ T, b ≠ a := fun b hb z => by
    have q := atT b hb
    rw [z, hA] at q
    exact absurd (congrArg Obj.data (Option.some.inj q)) (by intro q; cases q)
  let ol : Obj := { cls := .type "list", data := .seq us.toArray }
  generalize hH : hp0 K a T ol (ns.map V.int) = H
  have cas : ∀ b, H b = none ∨ (b ∈ T ∧ b ≠ a ∧ H b = some (.tbl #[])) ∨ (b = a ∧ K.lookup a = none ∧ H b = some (.frz ol (.lst (ns.map V.int)))) := fun b => by
    rw [← hH]
    exact hp0_cases b
  have tabs : ∀ p ∈ cs, H p.2 = some (.tbl #[]) := fun p hp => by
    rw [← hH]
    exact hp0_tab (inT p hp) (naT _ (inT p hp))
  have lst : SqL K H a (ns.map V.int) := by
    cases q : K.lookup a with
    | none =>
      refine .inl (.inr ⟨ol, ?_⟩)
      rw [← hH]
      unfold hp0
      rw [if_pos rfl, if_pos q]
    | some o =>
      have z := hK a o q
      rw [hA] at z
      cases z
      exact .inr ⟨_, us.toArray, _, q, rfl, rfl, rfl, by rw [List.size_toArray, lenU]; exact hl, by simpa using rel⟩
  have hok : HOk P w H st.heap := fun b u e => by
    rcases cas b with z | ⟨z1, _, z2⟩ | ⟨z1, _, z2⟩
    · rw [z] at e
      cases e
    · rw [z2] at e
      cases e
      exact atT b z1
    · rw [z2] at e
      cases e
      rw [z1]
      exact ⟨hA, by rw [List.length_map]; exact hl, us, _, rel, hA⟩
  -- neither a list nor a table: not tracked
  have free : ∀ {b : Addr} {o : Obj}, st.heap.get? b = some o → (∀ vs n, o.data ≠ .seq vs n) → o.data ≠ .fields #[] → H b = none := fun {b o} e n1 n2 => by
    rcases cas b with z | ⟨z1, _, _⟩ | ⟨z1, _, _⟩
    · exact z
    · rw [atT b z1] at e
      cases e
      exact absurd rfl n2
    · rw [z1, hA] at e
      cases e
      exact absurd rfl (n1 _ _)
  have low : ∀ {b : Addr} {o : Obj}, st.heap.get? b = some o → H b = none → (hidT st.heap H).get? b = some o := fun e n => hidT_get e n
  have dct : ∀ {b : Addr} {m : Str → Option Value}, st.heap.Ns b m → (hidT st.heap H).Ns b m := fun {b m} ⟨o, es, ep, e, d, r⟩ =>
    ⟨o, es, ep, low e (free e (fun vs n z => by rw [d] at z; cases z) fun z => by rw [d] at z; cases z), d, r⟩
  have kIn : K.In (hidT st.heap H) := fun b o e => low (hK b o e) (by
    rcases cas b with z | ⟨z1, _, _⟩ | ⟨z1, z2, _⟩
    · exact z
    · rw [offT b z1] at e
      cases e
    · rw [z1, z2] at e
      cases e)
  have md : L2.Mod K mg (hidT st.heap H) := ⟨kIn, dct hN, ⟨mb, dct hB, hBB⟩, by
    obtain ⟨mc, q1, q2⟩ := hL
    exact ⟨mc, dct q1, q2⟩⟩
  have tbs : ∀ p ∈ cs, LamX.TabB (hidT st.heap H) mg p.1 p.2 := fun p hp => by
    have at0 := tO p hp
    refine ⟨?_, ?_, fun z => ?_⟩
    · obtain ⟨o, vs, file, tf, fl, tg, inF, tx, tt, q1, r1, r2, r3, rest⟩ := tC p hp
      refine ⟨o, vs, file, tf, fl, tg, inF, tx, tt, low q1 (free q1 (fun vs n z => ?_) fun z => ?_), r1, r2, r3, rest⟩
      · rw [r2] at z
        cases z
      · rw [r2] at z
        cases z
        simp at r3
    · obtain ⟨m, om, q1, q2, q3, q4, q5, q6⟩ := hM
      have n1 : m ≠ mainGlobals := fun q => by
        obtain ⟨o, es, ep, e, d, _⟩ := hN
        rw [q, e] at q3
        cases q3
        rw [d] at q6
        cases q6
      have n2 : m ≠ p.2 := fun q => by
        rw [q, at0] at q3
        cases q3
        cases q6
      refine ⟨m, om, q1, q2, n1, n2, low q3 (free q3 (fun vs n z => ?_) fun z => ?_), q4, q5, q6⟩
      · rw [q6] at z
        cases z
      · rw [q6] at z
        cases z
    · obtain ⟨o, es, ep, e, d, _⟩ := hN
      rw [z, at0] at e
      cases e
      cases d
  have ev : Env0 P w K mg (hidT st.heap H) callerA [] st H :=
    ⟨rfl, md, fun b o e => of_hidT e, Nat.le_of_eq (hidT_size _ _), trivial, fun b hb => absurd (show b ∈ ([] : List Addr) from hb) (by simp), hok, .of_eq hG⟩
  refine codeAny_mono ((F _ kIn (dct hN) tbs).run callerA [] st H [.ref a] [.ref a] _ _ rfl hr ev (bd st (.ref a)) (.cons rfl .nil) (hsp H tabs lst)) fun r s' h => ?_
  cases r with
  | error e => exact (show False from h).elim
  | ok fl =>
    cases fl with
    | next => exact False.elim h
    | brk => exact False.elim h
    | cont => exact False.elim h
    | ret u =>
      obtain ⟨v, H', os, bare, un, hok', rv, q⟩ := h
      cases (show v = .bl true from q)
      cases (show u = Value.bool true from rv)
      have keeps : ∀ b o, b ∉ T → st.heap.get? b = some o → s'.heap.get? b = some o := fun b o nb e => by
        rcases cas b with z | ⟨z1, _, _⟩ | ⟨z1, z2, z3⟩
        · exact un.keep b o e z (by intro q; exact absurd (show b ∈ ([] : List Addr) from q) (by simp)) (by simp)
        · exact absurd z1 nb
        · obtain ⟨e2, _⟩ := hok' b _ (un.frzs b _ _ z3)
          rw [z1, hA] at e
          cases e
          exact e2
      have grown : ∀ p ∈ cs, ∃ more : Array Value, s'.heap.get? p.2 = some { cls := .none, data := .fields more } := fun p hp => by
        obtain ⟨more, z⟩ := un.tbls p.2 #[] (tabs p hp)
        exact ⟨_, hok' p.2 _ z⟩
      refine ⟨rfl, ⟨fun b o e => ?_, fun b o e => ?_⟩, os, bare⟩
      · by_cases hb : b ∈ T
        · rw [← hT] at hb
          obtain ⟨p, hp, rfl⟩ := List.mem_map.mp hb
          obtain ⟨more, hm⟩ := grown p hp
          rw [tO p hp] at e
          cases e
          exact .inr (.inl ⟨((tC p hp).tab (tO p hp)).isCodeTable, rfl, #[], more, rfl, by rw [Array.empty_append]; exact hm⟩)
        · exact .inl (keeps b o hb e)
      · by_cases hb : b ∈ T
        · rw [← hT] at hb
          obtain ⟨p, hp, rfl⟩ := List.mem_map.mp hb
          obtain ⟨more, hm⟩ := grown p hp
          exact ⟨_, hm⟩
        · exact ⟨o, keeps b o hb e⟩
/-- what is known of the law at the head's heap -/
def LawG (l : PySem.W.OpenLaw) (w : World) (K : PySem.W.Frag) (k n : Nat) (x : Str) (mg : Str → Option Value) (fa : Addr) (h : Heap) : Prop :=
  ∃ (fd : FuncData) (cs : List (Addr × Addr)) (sp : Sp), (∀ p ∈ cs, h.get? p.2 = some oTab) ∧ (∀ p ∈ cs, K.lookup p.2 = none) ∧ (∀ p ∈ cs, PySem.W.CodeHd h p.1 p.2) ∧ (∀ (s : Shared) (u : Value), BindsTo s fd ⟨[u], []⟩ [(x, u)]) ∧
    (∀ (H : Hp) (a : Addr) (ns : List Int), ns.length ≤ n → (∀ p ∈ cs, H p.2 = some (.tbl #[])) → SqL K H a (ns.map V.int) → sp [.ref a] H (fun v _ => v = .bl true) fun _ _ _ => False) ∧
    ∀ base : Heap, K.In base → base.Ns mainGlobals mg → (∀ p ∈ cs, LamX.TabB base mg p.1 p.2) → FnG l.prog w K mg base k fa fd [x] sp
theorem walk_G {l : PySem.W.OpenLaw} {n k : Nat} {q : Program} {loose : List Str} {XP : (Str → Option Value) → Heap → Prop} {YP : World → Heap → Prop} {d : DefRec} {K : Params → PySem.W.Frag} {x : Str}
    (hn : l.most = some n) (hn2 : n ≤ sizeLine) (hdf : d.params.defaults = []) (hr : Room k callerA) (hY : ∀ (w : World) (h : Heap), YP w h → (K w.params).In h)
    (F : ∀ (w : World) (mg : Str → Option Value) (fa : Addr) (h : Heap), YP w h → (K w.params).In h → h.Ns mainGlobals mg → mg d.name = some (.ref fa) → LawG l w (K w.params) k n x mg fa h) :
    PySem.W.WalkO q loose XP YP l.row.toRowW d [] (fun f vs => PySem.call f vs) := by
  refine Att.attach_callB hn hdf fun w _ st mg mb fa o pm cd doc a us ns G Y _ _ _ hmg hobj hints hlen _ hgen => ?_
  have hK := hY w _ Y
  obtain ⟨fd, cs, sp, h1, h2, h3, h4, h5, h6⟩ := F w mg fa _ Y hK G.T.g hmg
  exact law_callG hK G.T.g G.T.b G.T.builtins G.T.nolimit hgen h1 h2 h3 G.T.bmain hobj hints (Nat.le_trans hlen hn2) hr h6 h4 fun H hH hS => h5 H a ns hlen hH hS
end K1
set_option Elab.async false
set_option linter.all false
set_option maxRecDepth 100000
set_option maxHeartbeats 4000000
namespace K1
open PySem PySem.Spec PyProof.Rows L2
/-! ### things: a text, a tuple, anything else -/
inductive G where
  | s (x : Str)
  | t (ps : List G)
  | l (ps : List G)
  | o (d : PyData)
def isS : G → Bool | .s _ => true | _ => false
def isT : G → Bool | .t _ => true | _ => false
def hd : G → Str | .s x => x | _ => Str.empty
def maxl (ns : List Nat) : Nat := ns.foldr max 0
def text : G → Str
  | .s x => x
  | .t [] => Str.empty
  | .t (h :: ps) => if ps.isEmpty then hd h else hd h ++ Str.ofString "(" ++ Txt.join (Str.ofString ",") (ps.map text) ++ Str.ofString ")"
  | .l _ => Str.empty
  | .o _ => Str.empty
def points : G → Nat
  | .t (_ :: ps) => 1 + (ps.map points).sum
  | _ => 1
def deep : G → Nat
  | .t (_ :: ps) => 1 + maxl (ps.map deep)
  | _ => 1
def wide : G → Nat
  | .t (_ :: ps) => max ps.length (maxl (ps.map wide))
  | _ => 0
def few : G → Bool
  | .t (_ :: ps) => decide (ps.length + 1 < 10) && (ps.map few).all id
  | _ => true
def sz : G → Nat
  | .t ps => 1 + (ps.map sz).sum
  | .l ps => 1 + (ps.map sz).sum
  | _ => 1
def dp : G → Nat
  | .t ps => 1 + maxl (ps.map dp)
  | .l ps => 1 + maxl (ps.map dp)
  | _ => 1
/-- what else may stand in things -/
def oddB : PyData → Bool
  | .none => true
  | .bool _ => true
  | .int i => decide (i.natAbs < 100)
  | .dict [] => true
  | _ => false
def fine : G → Bool
  | .s x => decide (x.length ≤ 10) && PyData.strOk x
  | .t ps => (ps.map fine).all id
  | .l ps => (ps.map fine).all id
  | .o d => oddB d
/-- built as a term: texts, and tuples that begin with one -/
def shp : G → Bool
  | .s _ => true
  | .t (.s _ :: ps) => (ps.map shp).all id
  | _ => false
def toD : G → PyData
  | .s x => .str x
  | .t ps => .tuple (ps.map toD)
  | .l ps => .list (ps.map toD)
  | .o d => d
theorem maxl_le {ns : List Nat} {m : Nat} : maxl ns ≤ m ↔ ∀ n ∈ ns, n ≤ m := by
  induction ns with
  | nil => simp [maxl]
  | cons a r ih =>
    show max a (maxl r) ≤ m ↔ _
    rw [Nat.max_le, ih]
    simp
theorem le_maxl {ns : List Nat} {n : Nat} (h : n ∈ ns) : n ≤ maxl ns := maxl_le.mp (Nat.le_refl _) n h
theorem le_sum {ns : List Nat} {n : Nat} (h : n ∈ ns) : n ≤ ns.sum := by
  induction ns with
  | nil => cases h
  | cons a r ih =>
    rw [List.sum_cons]
    rcases List.mem_cons.mp h with rfl | h
    · omega
    · have := ih h
      omega
theorem len_le_sum {ns : List Nat} (h : ∀ n ∈ ns, 1 ≤ n) : ns.length ≤ ns.sum := by
  induction ns with
  | nil => simp
  | cons a r ih =>
    rw [List.sum_cons, List.length_cons]
    have h1 := h a List.mem_cons_self
    have h2 := ih fun n hn => h n (List.mem_cons_of_mem _ hn)
    omega
theorem dp_l (ps : List G) : dp (.l ps) = 1 + maxl (ps.map dp) := by simp only [dp]
theorem sz_l (ps : List G) : sz (.l ps) = 1 + (ps.map sz).sum := by simp only [sz]
theorem fine_l (ps : List G) : fine (.l ps) = ps.all fine := by
  rw [fine, List.all_map]
  rfl
theorem dp_t (ps : List G) : dp (.t ps) = 1 + maxl (ps.map dp) := by simp only [dp]
theorem sz_t (ps : List G) : sz (.t ps) = 1 + (ps.map sz).sum := by simp only [sz]
theorem fine_t (ps : List G) : fine (.t ps) = ps.all fine := by
  rw [fine, List.all_map]
  rfl
theorem dp_pos (g : G) : 1 ≤ dp g := by
  cases g with
  | t ps => rw [dp_t]; omega
  | l ps => rw [dp_l]; omega
  | _ => simp [dp]
theorem sz_pos (g : G) : 1 ≤ sz g := by
  cases g with
  | t ps => rw [sz_t]; omega
  | l ps => rw [sz_l]; omega
  | _ => simp [sz]
theorem dp_mem {ps : List G} {p : G} {n : Nat} (h : dp (.t ps) ≤ n + 1) (hp : p ∈ ps) : dp p ≤ n := by
  rw [dp_t] at h
  have := le_maxl (List.mem_map.mpr ⟨p, hp, rfl⟩ : dp p ∈ ps.map dp)
  omega
theorem sz_mem {ps : List G} {p : G} (hp : p ∈ ps) : sz p < sz (.t ps) := by
  rw [sz_t]
  have := le_sum (List.mem_map.mpr ⟨p, hp, rfl⟩ : sz p ∈ ps.map sz)
  omega
theorem sz_len (ps : List G) : ps.length < sz (.t ps) := by
  rw [sz_t]
  have := len_le_sum (ns := ps.map sz) fun n hn => by
    obtain ⟨p, _, rfl⟩ := List.mem_map.mp hn
    exact sz_pos p
  rw [List.length_map] at this
  omega
theorem fine_mem {ps : List G} {p : G} (h : fine (.t ps) = true) (hp : p ∈ ps) : fine p = true := by
  rw [fine_t, List.all_eq_true] at h
  exact h p hp
theorem shp_t (x : Str) (ps : List G) : shp (.t (.s x :: ps)) = ps.all shp := by
  rw [shp, List.all_map]
  rfl
theorem shp_cases {g : G} (h : shp g = true) : (∃ x, g = .s x) ∨ ∃ x ps, g = .t (.s x :: ps) ∧ ∀ p ∈ ps, shp p = true := by
  cases g with
  | s x => exact .inl ⟨x, rfl⟩
  | o => simp [shp] at h
  | l ps => simp [shp] at h
  | t ps =>
    cases ps with
    | nil => simp [shp] at h
    | cons q ps =>
      cases q with
      | s x =>
        rw [shp_t, List.all_eq_true] at h
        exact .inr ⟨x, ps, rfl, h⟩
      | _ => simp [shp] at h
theorem text_one (h : G) : text (.t [h]) = hd h := by
  rw [text]
  rfl
theorem text_more (h p : G) (ps : List G) : text (.t (h :: p :: ps)) = hd h ++ Str.ofString "(" ++ Txt.join (Str.ofString ",") ((p :: ps).map text) ++ Str.ofString ")" := by
  rw [text]
  rfl
theorem points_t (h : G) (ps : List G) : points (.t (h :: ps)) = 1 + (ps.map points).sum := by simp only [points]
theorem deep_t (h : G) (ps : List G) : deep (.t (h :: ps)) = 1 + maxl (ps.map deep) := by simp only [deep]
theorem wide_t (h : G) (ps : List G) : wide (.t (h :: ps)) = max ps.length (maxl (ps.map wide)) := by simp only [wide]
theorem few_t (h : G) (ps : List G) : few (.t (h :: ps)) = (decide (ps.length + 1 < 10) && ps.all few) := by
  rw [few, List.all_map]
  rfl
theorem points_pos (g : G) : 1 ≤ points g := by
  cases g with
  | t ps =>
    cases ps with
    | nil => simp [points]
    | cons h ps => rw [points_t]; omega
  | _ => simp [points]
theorem deep_pos (g : G) : 1 ≤ deep g := by
  cases g with
  | t ps =>
    cases ps with
    | nil => simp [deep]
    | cons h ps => rw [deep_t]; omega
  | _ => simp [deep]
theorem join_len (c : Str) : ∀ ys : List Str, (Txt.join c ys).length ≤ (ys.map (·.length)).sum + ys.length * c.length := fun ys => by
  rw [show Txt.join c ys = Str.join c ys from PySem.StrLaws.glued_eq_join _ _]
  induction ys with
  | nil => exact Nat.zero_le _
  | cons y r ih =>
    cases r with
    | nil =>
      show y.length ≤ _
      simp
    | cons z r =>
      show (y ++ c ++ Str.join c (z :: r)).length ≤ _
      rw [app_len, app_len]
      simp only [List.map_cons, List.sum_cons, List.length_cons] at ih ⊢
      rw [Nat.add_mul, Nat.one_mul] at ih ⊢
      rw [Nat.add_mul, Nat.one_mul]
      omega
theorem sum_map_le {α : Type} {f g : α → Nat} : ∀ {l : List α}, (∀ a ∈ l, f a ≤ g a) → (l.map f).sum ≤ (l.map g).sum
  | [], _ => Nat.le_refl _
  | a :: r, h => by
    rw [List.map_cons, List.map_cons, List.sum_cons, List.sum_cons]
    have h1 := h a List.mem_cons_self
    have h2 := sum_map_le (l := r) fun b hb => h b (List.mem_cons_of_mem _ hb)
    omega
theorem hd_len {g : G} (h : fine g = true) : (hd g).length ≤ 10 := by
  cases g with
  | s x =>
    simp only [fine, Bool.and_eq_true, decide_eq_true_iff] at h
    exact h.1
  | _ => exact (by decide +kernel : (Str.empty).length ≤ 10)
theorem sum_mul (c : Nat) : ∀ ns : List Nat, (ns.map fun n => c * n).sum = c * ns.sum
  | [] => rfl
  | n :: r => by
    rw [List.map_cons, List.sum_cons, List.sum_cons, sum_mul c r, Nat.mul_add]
theorem succ_sum : ∀ l : List G, (l.map fun q => (text q).length + 1).sum = (l.map ((fun x => x.length) ∘ text)).sum + l.length
  | [] => rfl
  | a :: r => by
    have ih := succ_sum r
    simp only [List.map_cons, List.sum_cons, List.length_cons, Function.comp] at ih ⊢
    omega
theorem text_len_t (h p : G) (ps : List G) (h0 : (hd h).length ≤ 10) (hq : ∀ q ∈ p :: ps, (text q).length + 1 ≤ 13 * sz q) : (text (.t (h :: p :: ps))).length + 1 ≤ 13 * sz (.t (h :: p :: ps)) := by
  rw [text_more, sz_t, app_len, app_len, app_len]
  have e1 : (Str.ofString "(").length = 1 := by decide +kernel
  have e2 : (Str.ofString ")").length = 1 := by decide +kernel
  have e3 : (Str.ofString ",").length = 1 := by decide +kernel
  rw [e1, e2]
  generalize hl : p :: ps = l at *
  have hj := join_len (Str.ofString ",") (l.map text)
  rw [e3, Nat.mul_one, List.map_map, List.length_map] at hj
  have hs : (l.map fun q => (text q).length + 1).sum ≤ (l.map fun q => 13 * sz q).sum := sum_map_le hq
  have e4 := succ_sum l
  have e5 : (l.map fun q => 13 * sz q).sum = 13 * (l.map sz).sum := by
    rw [← sum_mul, List.map_map]
    rfl
  have h2 := sz_pos h
  rw [List.map_cons, List.sum_cons]
  generalize (l.map sz).sum = S at *
  generalize (l.map ((fun x => x.length) ∘ text)).sum = T at *
  generalize (Txt.join (Str.ofString ",") (l.map text)).length = U at *
  generalize (hd h).length = V at *
  generalize sz h = Z at *
  omega
theorem empty_len : (Str.empty).length = 0 := by decide +kernel
theorem text_len (n : Nat) : ∀ (g : G), dp g ≤ n → fine g = true → (text g).length + 1 ≤ 13 * sz g := by
  induction n with
  | zero =>
    intro g h _
    have := dp_pos g
    omega
  | succ n ih =>
    intro g hdp hf
    cases g with
    | s x =>
      have h2 := hd_len hf
      have h3 := sz_pos (.s x)
      have h4 : text (.s x) = hd (.s x) := by simp [text, hd]
      rw [h4]
      omega
    | o d =>
      have h3 := sz_pos (.o d)
      have h4 : text (.o d) = Str.empty := by simp [text]
      rw [h4, empty_len]
      omega
    | l ps =>
      have h3 := sz_pos (.l ps)
      have h4 : text (.l ps) = Str.empty := by simp [text]
      rw [h4, empty_len]
      omega
    | t gs =>
      cases gs with
      | nil =>
        rw [text, empty_len]
        have := sz_pos (.t [])
        omega
      | cons h r =>
        have h0 := hd_len (fine_mem hf List.mem_cons_self)
        cases r with
        | nil =>
          have h2 := sz_mem (ps := [h]) List.mem_cons_self
          have h3 := sz_pos h
          rw [text_one]
          omega
        | cons p ps => exact text_len_t h p ps h0 fun q hq => ih q (dp_mem hdp (List.mem_cons_of_mem _ hq)) (fine_mem hf (List.mem_cons_of_mem _ hq))
/-! ### how they stand in the heap -/
mutual
inductive In (K : PySem.W.Frag) (H : Hp) : V → G → Prop
  | s (x : Str) : In K H (.str x) (.s x)
  | t {a : Addr} {xs : List V} {gs : List G} (h : SqT K H a xs) (r : InL K H xs gs) : In K H (.ref a) (.t gs)
  | non : In K H .non (.o .none)
  | bl (b : Bool) : In K H (.bl b) (.o (.bool b))
  | int (i : Int) : In K H (.int i) (.o (.int i))
  | lst {a : Addr} {xs : List V} {gs : List G} (h : H a = some (.lst xs)) (r : InL K H xs gs) : In K H (.ref a) (.l gs)
  | dic {a : Addr} (h : H a = some (.dK [])) : In K H (.ref a) (.o (.dict []))
inductive InL (K : PySem.W.Frag) (H : Hp) : List V → List G → Prop
  | nil : InL K H [] []
  | cons {v : V} {vs : List V} {g : G} {gs : List G} : In K H v g → InL K H vs gs → InL K H (v :: vs) (g :: gs)
end
abbrev Ext := LamX.ExtN
theorem Ext.of {H H' : Hp} (s : Same H H') : Ext H H' := LamX.ExtN.of s
theorem Ext.sqt {K : PySem.W.Frag} {H H' : Hp} {a : Addr} {xs : List V} (s : Ext H H') (h : SqT K H a xs) : SqT K H' a xs := by
  rcases h with (h | ⟨o, h⟩) | h
  · exact .inl (.inl (s _ _ h (by intro _ z; cases z)))
  · exact .inl (.inr ⟨o, s _ _ h (by intro _ z; cases z)⟩)
  · exact .inr h
theorem Ext.sql {K : PySem.W.Frag} {H H' : Hp} {a : Addr} {xs : List V} (s : Ext H H') (h : SqL K H a xs) : SqL K H' a xs := by
  rcases h with (h | ⟨o, h⟩) | h
  · exact .inl (.inl (s _ _ h (by intro _ z; cases z)))
  · exact .inl (.inr ⟨o, s _ _ h (by intro _ z; cases z)⟩)
  · exact .inr h
mutual
theorem in_ext {K : PySem.W.Frag} {H H' : Hp} (s : Ext H H') : ∀ (g : G) (v : V), In K H v g → In K H' v g
  | .s _, _, .s x => .s x
  | .t gs, _, .t h r => .t (s.sqt h) (inL_ext s gs _ r)
  | .o _, _, .non => .non
  | .o _, _, .bl b => .bl b
  | .o _, _, .int i => .int i
  | .l gs, _, .lst h r => .lst (s _ _ h (by intro _ z; cases z)) (inL_ext s gs _ r)
  | .o _, _, .dic h => .dic (s _ _ h (by intro _ z; cases z))
theorem inL_ext {K : PySem.W.Frag} {H H' : Hp} (s : Ext H H') : ∀ (gs : List G) (vs : List V), InL K H vs gs → InL K H' vs gs
  | [], _, .nil => .nil
  | g :: gs, _, .cons h t => .cons (in_ext s g _ h) (inL_ext s gs _ t)
end
theorem In.ext {K : PySem.W.Frag} {H H' : Hp} {v : V} {g : G} (s : Ext H H') (h : In K H v g) : In K H' v g := in_ext s g v h
theorem InL.ext {K : PySem.W.Frag} {H H' : Hp} {vs : List V} {gs : List G} (s : Ext H H') (h : InL K H vs gs) : InL K H' vs gs := inL_ext s gs vs h
theorem In.same {K : PySem.W.Frag} {H H' : Hp} {v : V} {g : G} (s : Same H H') (h : In K H v g) : In K H' v g := h.ext (.of s)
theorem InL.same {K : PySem.W.Frag} {H H' : Hp} {vs : List V} {gs : List G} (s : Same H H') (h : InL K H vs gs) : InL K H' vs gs := h.ext (.of s)
theorem InL.len {K : PySem.W.Frag} {H : Hp} : ∀ {vs : List V} {gs : List G}, InL K H vs gs → vs.length = gs.length
  | _, _, .nil => rfl
  | _, _, .cons _ t => by rw [List.length_cons, List.length_cons, t.len]
theorem InL.at {K : PySem.W.Frag} {H : Hp} : ∀ {vs : List V} {gs : List G} {i : Nat} {v : V}, InL K H vs gs → vs[i]? = some v → ∃ g, gs[i]? = some g ∧ In K H v g
  | _, _, i, v, .nil, h => by simp at h
  | _, _, 0, v, .cons (g := g) h _, e => ⟨g, rfl, by
      have e' := Option.some.inj e
      rw [← e']
      exact h⟩
  | _, _, i + 1, v, .cons _ t, e => t.at (i := i) e
theorem InL.get {K : PySem.W.Frag} {H : Hp} : ∀ {vs : List V} {gs : List G} {i : Nat} {g : G}, InL K H vs gs → gs[i]? = some g → ∃ v, vs[i]? = some v ∧ In K H v g
  | _, _, i, v, .nil, h => by simp at h
  | _, _, 0, _, .cons (v := v) h _, e => ⟨v, rfl, by
      have e' := Option.some.inj e
      rw [← e']
      exact h⟩
  | _, _, i + 1, v, .cons _ t, e => t.get (i := i) e
theorem InL.drop {K : PySem.W.Frag} {H : Hp} : ∀ {vs : List V} {gs : List G} (n : Nat), InL K H vs gs → InL K H (vs.drop n) (gs.drop n)
  | _, _, 0, h => h
  | _, _, n + 1, .nil => .nil
  | _, _, n + 1, .cons _ t => t.drop n
theorem InL.take {K : PySem.W.Frag} {H : Hp} : ∀ {vs : List V} {gs : List G} (n : Nat), InL K H vs gs → InL K H (vs.take n) (gs.take n)
  | _, _, 0, _ => .nil
  | _, _, n + 1, .nil => .nil
  | _, _, n + 1, .cons h t => .cons h (t.take n)
theorem InL.app {K : PySem.W.Frag} {H : Hp} : ∀ {vs us : List V} {gs hs : List G}, InL K H vs gs → InL K H us hs → InL K H (vs ++ us) (gs ++ hs)
  | _, _, _, _, .nil, h => h
  | _, _, _, _, .cons h t, h' => .cons h (t.app h')
/-- of what kind -/
theorem In.kind {K : PySem.W.Frag} {H : Hp} {v : V} {g : G} (h : In K H v g) : ∃ d : PyData, TyX K H v (.type (tyOf d)) ∧ isStr d = isS g ∧ isTup d = isT g := by
  cases h with
  | s x => exact ⟨.str x, .base (.str x), rfl, rfl⟩
  | t h _ => exact ⟨.tuple [], tyx_tup h, rfl, rfl⟩
  | non => exact ⟨.none, .base .non, rfl, rfl⟩
  | bl b => exact ⟨.bool b, .base (.bl b), rfl, rfl⟩
  | int i => exact ⟨.int i, .base (.int i), rfl, rfl⟩
  | lst h _ => exact ⟨.list [], .base (.lst h), rfl, rfl⟩
  | dic h => exact ⟨.dict [], .base (.dK h), rfl, rfl⟩
theorem In.str {K : PySem.W.Frag} {H : Hp} {v : V} {x : Str} (h : In K H v (.s x)) : v = .str x := by cases h; rfl
theorem In.tup {K : PySem.W.Frag} {H : Hp} {v : V} {gs : List G} (h : In K H v (.t gs)) : ∃ a xs, v = .ref a ∧ SqT K H a xs ∧ InL K H xs gs := by
  cases h with
  | t h r => exact ⟨_, _, rfl, h, r⟩
theorem inL_dp {K : PySem.W.Frag} {H : Hp} : ∀ (gs : List G) (vs : List V), (∀ g ∈ gs, ∀ v, In K H v g → Dp K H v (toD g)) → InL K H vs gs → DpAll K H vs (gs.map toD)
  | [], _, _, .nil => .nil
  | g :: gs, _, hs, .cons h t => .cons (hs g List.mem_cons_self _ h) (inL_dp gs _ (fun e he => hs e (List.mem_cons_of_mem _ he)) t)
theorem in_dpN {K : PySem.W.Frag} {H : Hp} (n : Nat) : ∀ (g : G) (v : V), dp g ≤ n → shp g = true → In K H v g → Dp K H v (toD g) := by
  induction n with
  | zero =>
    intro g v h
    have := dp_pos g
    omega
  | succ n ih =>
    intro g v hd hs hi
    rcases shp_cases hs with ⟨x, rfl⟩ | ⟨x, ps, rfl, hp⟩
    · rw [hi.str, toD]
      exact .str x
    · obtain ⟨a, xs, rfl, h, r⟩ := hi.tup
      rw [toD]
      refine .tup h (inL_dp _ _ (fun g hg w hw => ?_) r)
      rcases List.mem_cons.mp hg with rfl | hg
      · rw [hw.str, toD]
        exact .str x
      · exact ih g w (dp_mem hd (List.mem_cons_of_mem _ hg)) (hp g hg) hw
theorem in_dp {K : PySem.W.Frag} {H : Hp} (g : G) (v : V) (hs : shp g = true) (h : In K H v g) : Dp K H v (toD g) := in_dpN (dp g) g v (Nat.le_refl _) hs h
end K1
set_option Elab.async false
set_option linter.all false
set_option maxRecDepth 100000
set_option maxHeartbeats 4000000
namespace K1
open PySem PySem.Spec PyProof.Rows L2
/-! ### tuples stand -/
def TupK (H H' : Hp) : Prop := ∀ b o, H b = some o → ((∃ xs, o = .tup xs) ∨ ∃ ob xs, o = .frz ob (.tup xs)) → H' b = some o
theorem TupK.sqt {K : PySem.W.Frag} {H H' : Hp} {a : Addr} {xs : List V} (s : TupK H H') (h : SqT K H a xs) : SqT K H' a xs := by
  rcases h with (h | ⟨o, h⟩) | h
  · exact .inl (.inl (s _ _ h (.inl ⟨_, rfl⟩)))
  · exact .inl (.inr ⟨o, s _ _ h (.inr ⟨_, _, rfl⟩)⟩)
  · exact .inr h
theorem TupK.of {H H' : Hp} (e : Ext H H') : TupK H H' := fun b o h k => e b o h (by
  rintro ps rfl
  rcases k with ⟨xs, z⟩ | ⟨ob, xs, z⟩ <;> cases z)
theorem TupK.off {H H1 : Hp} {D : Addr} {ys : List V} {o : HO} (e : TupK H H1) (h : H1 D = some (.lst ys)) : TupK H (upd H1 D o) := fun b u h1 k => by
  have q := e b u h1 k
  rw [upd_ne (fun z => by
    rw [z, h] at q
    rcases k with ⟨xs, z⟩ | ⟨ob, xs, z⟩ <;> (subst z; cases q))]
  exact q
theorem TupK.trans {H H1 H2 : Hp} (a : TupK H H1) (b : TupK H1 H2) : TupK H H2 := fun c o h k => b c o (a c o h k) k
theorem inL_tk0 {K : PySem.W.Frag} {H H' : Hp} : ∀ (gs : List G) (vs : List V), (∀ g ∈ gs, ∀ v, In K H v g → In K H' v g) → InL K H vs gs → InL K H' vs gs
  | [], _, _, .nil => .nil
  | g :: gs, _, hs, .cons h t => .cons (hs g List.mem_cons_self _ h) (inL_tk0 gs _ (fun e he => hs e (List.mem_cons_of_mem _ he)) t)
theorem in_tkN {K : PySem.W.Frag} {H H' : Hp} (s : TupK H H') (n : Nat) : ∀ (g : G) (v : V), dp g ≤ n → shp g = true → In K H v g → In K H' v g := by
  induction n with
  | zero =>
    intro g v h
    have := dp_pos g
    omega
  | succ n ih =>
    intro g v hd hs hi
    rcases shp_cases hs with ⟨x, rfl⟩ | ⟨x, ps, rfl, hp⟩
    · rw [hi.str]
      exact .s x
    · obtain ⟨a, xs, rfl, h, r⟩ := hi.tup
      refine .t (s.sqt h) (inL_tk0 _ _ (fun g hg w hw => ?_) r)
      rcases List.mem_cons.mp hg with rfl | hg
      · rw [hw.str]
        exact .s x
      · exact ih g w (dp_mem hd (List.mem_cons_of_mem _ hg)) (hp g hg) hw
theorem in_tk {K : PySem.W.Frag} {H H' : Hp} (s : TupK H H') (g : G) (v : V) (hs : shp g = true) (h : In K H v g) : In K H' v g := in_tkN s (dp g) g v (Nat.le_refl _) hs h
theorem inL_tk {K : PySem.W.Frag} {H H' : Hp} (s : TupK H H') (gs : List G) (vs : List V) (hs : ∀ g ∈ gs, shp g = true) (h : InL K H vs gs) : InL K H' vs gs := inL_tk0 gs vs (fun g hg v hv => in_tk s g v (hs g hg) hv) h
open PySem.W (EachIs)
theorem each_app {α β : Type} {R : α → β → Prop} {x : α} {y : β} (h : R x y) : ∀ {as : List α} {bs : List β}, EachIs R as bs → EachIs R (as ++ [x]) (bs ++ [y])
  | _, _, .nil => .cons h .nil
  | _, _, .cons q t => .cons q (each_app h t)
theorem Ext.updD {H1 H : Hp} {D : Addr} {o : HO} (e : Ext H1 H) (h : H1 D = none) : Ext H1 (upd H D o) := fun b u h1 n => by
  rw [upd_ne (ne_of_none h1 h)]
  exact e b u h1 n
theorem Ext.trans {H H1 H2 : Hp} (a : Ext H H1) (b : Ext H1 H2) : Ext H H2 := LamX.ExtN.trans a b
theorem Ext.refl (H : Hp) : Ext H H := LamX.ExtN.refl H
section
variable {K : PySem.W.Frag} {a : Addr} {xs : List V} {gs : List G} {j : Nat} {te : TE} {tt : TT} {σ : L2.St} {H1 : Hp} {D : Addr} {Qd : Hp → Prop} {J : Hp → Prop}
/-- [e for x in xs], xs of things at a tuple: at each turn all stands -/
theorem lc_in (R : Hp → V → G → Prop) (hD : H1 D = none) (hx : SqT K H1 a xs) (hg : InL K H1 xs gs) (hl : xs.length ≤ 100000)
    (mono : ∀ y g H H', R H y g → TupK H H' → R H' y g) (hw : ∀ x, wipe ((wipe σ [j]).set j (some x)) [j] = wipe σ [j])
    (hJ : ∀ H ys ys', J H → H D = some (.lst ys) → J (upd H D (.lst ys'))) (j0 : J (upd H1 D (.lst [])))
    (turn : ∀ x g H, g ∈ gs → In K H x g → Ext H1 H → J H → ∀ Q : VK, (∀ y H', Ext H H' → J H' → R H' y g → Q y H') → te ((wipe σ [j]).set j (some x)) H Q)
    (fin : ∀ H ys, Ext H1 H → J H → H D = some (.lst ys) → EachIs (R H) ys gs → Qd H) :
    ∃ W : Nat → Nat → Hp → Prop, (∃ m, W 0 m (upd H1 D (.lst []))) ∧ ∀ i m H, W i m H →
      ((Itt K a).stop i H ∧ Qd H) ∨ ((Itt K a).go i H ∧ ∃ Nx : Hp → Prop, (∀ H', Nx H' → ∃ m', m' < m ∧ W (i + 1) m' H') ∧ ∀ x H', (Itt K a).yld i H x H' → gName j x (wipe σ [j]) H' fun σ2 H2 => wipe σ2 [j] = wipe σ [j] ∧ tYes σ2 H2 fun b H3 =>
        if b = true then te σ2 H3 fun y H4 => ∃ acc, H4 D = some (.lst acc) ∧ acc.length < sizeLine ∧ Nx (upd H4 D (.lst (acc ++ [y]))) else Nx H3) := by
  refine lc_tup (K := K) (a := a) (xs := xs) (fun i H => Ext H1 H ∧ J H ∧ ∃ ys, H D = some (.lst ys) ∧ EachIs (R H) ys (gs.take i))
    ⟨(Ext.refl H1).updD hD, j0, [], upd_same, .nil⟩ (fun i H _ ⟨e, _⟩ => e.sqt hx) ?_ ?_
  · rintro i x H hi ⟨e, hj, ys, eD, hr⟩
    obtain ⟨g, hgi, hin⟩ := hg.at hi
    have hlen := (List.getElem?_eq_some_iff.mp hi).1
    have hly := hr.length
    rw [List.length_take] at hly
    refine ⟨hw x, ?_⟩
    refine turn x g H (List.mem_of_getElem? hgi) (hin.ext e) e hj _ fun y H' e' hj' r => ?_
    have eD' := e' _ _ eD (by intro _ z; cases z)
    refine ⟨ys, eD', by rw [sizeLine_eq]; omega, (e.trans e').updD hD, hJ _ _ _ hj' eD', ys ++ [y], upd_same, ?_⟩
    rw [take_snoc hgi]
    have off : TupK H' (upd H' D (.lst (ys ++ [y]))) := (TupK.of (Ext.refl H')).off eD'
    exact each_app (mono _ _ _ _ r off) (hr.mono fun y g q => mono _ _ _ _ q ((TupK.of e').trans off))
  · rintro H ⟨e, hj, ys, eD, hr⟩
    rw [hg.len, List.take_length] at hr
    exact fin H ys e hj eD hr
/-- [x for x in xs if test], asked whether it is empty -/
theorem lc_flt (f : G → Bool) (hD : H1 D = none) (hx : SqT K H1 a xs) (hg : InL K H1 xs gs) (hl : xs.length ≤ 100000)
    (hw : ∀ x, wipe ((wipe σ [j]).set j (some x)) [j] = wipe σ [j]) (hj : ∀ x, ((wipe σ [j]).set j (some x))[j]? = some (some x))
    (hJ : ∀ H ys ys', J H → H D = some (.lst ys) → J (upd H D (.lst ys'))) (j0 : J (upd H1 D (.lst [])))
    (turn : ∀ x g H, g ∈ gs → In K H x g → Ext H1 H → J H → ∀ Q : Bool → Hp → Prop, (∀ H', Ext H H' → J H' → Q (f g) H') → tt ((wipe σ [j]).set j (some x)) H Q)
    (fin : ∀ H ys, Ext H1 H → J H → H D = some (.lst ys) → ys.isEmpty = gs.all (fun g => !f g) → Qd H) :
    ∃ W : Nat → Nat → Hp → Prop, (∃ m, W 0 m (upd H1 D (.lst []))) ∧ ∀ i m H, W i m H →
      ((Itt K a).stop i H ∧ Qd H) ∨ ((Itt K a).go i H ∧ ∃ Nx : Hp → Prop, (∀ H', Nx H' → ∃ m', m' < m ∧ W (i + 1) m' H') ∧ ∀ x H', (Itt K a).yld i H x H' → gName j x (wipe σ [j]) H' fun σ2 H2 => wipe σ2 [j] = wipe σ [j] ∧ tt σ2 H2 fun b H3 =>
        if b = true then tVar j σ2 H3 fun y H4 => ∃ acc, H4 D = some (.lst acc) ∧ acc.length < sizeLine ∧ Nx (upd H4 D (.lst (acc ++ [y]))) else Nx H3) := by
  refine lc_tup (K := K) (a := a) (xs := xs) (fun i H => Ext H1 H ∧ J H ∧ ∃ ys, H D = some (.lst ys) ∧ ys.length ≤ i ∧ ys.isEmpty = (gs.take i).all (fun g => !f g))
    ⟨(Ext.refl H1).updD hD, j0, [], upd_same, Nat.le_refl _, rfl⟩ (fun i H _ ⟨e, _⟩ => e.sqt hx) ?_ ?_
  · rintro i x H hi ⟨e, hjj, ys, eD, hl2, hr⟩
    obtain ⟨g, hgi, hin⟩ := hg.at hi
    have hlen := (List.getElem?_eq_some_iff.mp hi).1
    refine ⟨hw x, ?_⟩
    refine turn x g H (List.mem_of_getElem? hgi) (hin.ext e) e hjj _ fun H' e' hj' => ?_
    have eD' := e' _ _ eD (by intro _ z; cases z)
    have ea : ∀ b, ((gs.take i ++ [g]).all (fun g => !f g) = b) ↔ (((gs.take i).all fun g => !f g) && !f g) = b := fun b => by
      rw [List.all_append]
      simp
    refine ite2 (fun hf => ?_) (fun hf => ?_)
    · refine ⟨x, hj x, ys, eD', by rw [sizeLine_eq]; omega, (e.trans e').updD hD, hJ _ _ _ hj' eD', ys ++ [x], upd_same, by rw [List.length_append]; exact Nat.succ_le_succ hl2, ?_⟩
      rw [take_snoc hgi, List.all_append]
      simp [hf]
    · refine ⟨e.trans e', hj', ys, eD', Nat.le_succ_of_le hl2, ?_⟩
      rw [take_snoc hgi, List.all_append, ← hr]
      simp [hf]
  · rintro H ⟨e, hjj, ys, eD, _, hr⟩
    rw [hg.len, List.take_length] at hr
    exact fin H ys e hjj eD hr
end
theorem each_val {β : Type} {f : β → V} : ∀ {ys : List V} {gs : List β}, EachIs (fun y g => y = f g) ys gs → ys = gs.map f
  | _, _, .nil => rfl
  | _, _, .cons h t => by rw [h, each_val t, List.map_cons]
theorem each_in {K : PySem.W.Frag} {H : Hp} {F : G → G} : ∀ {ys : List V} {gs : List G}, EachIs (fun y g => In K H y (F g)) ys gs → InL K H ys (gs.map F)
  | _, _, .nil => .nil
  | _, _, .cons h t => .cons h (each_in t)
/-- a tuple's own parts behind the first -/
theorem cut_1 (xs : List V) : cutV xs (some 1) none = xs.drop 1 := by
  cases xs with
  | nil => rfl
  | cons x r => exact cut_from' (n := 1) (by simp)
where cut_from' {xs : List V} {n : Nat} (h : n ≤ xs.length) : cutV xs (some (n : Int)) none = xs.drop n := by
        unfold cutV
        rw [HT.sIx_none, HT.sIx_nat, Nat.min_eq_left h]
        exact List.take_of_length_le (by rw [List.length_drop]; omega)
theorem whole_1 {xs : List V} (h : xs ≠ []) : ¬ (HT.sIx xs.length 0 (some 1) = 0 ∧ HT.sIx xs.length xs.length (none : Option Int) = xs.length) := by
  intro ⟨z, _⟩
  have e : HT.sIx xs.length 0 (some ((1 : Nat) : Int)) = min 1 xs.length := HT.sIx_nat _ _ _
  have : 0 < xs.length := List.length_pos_iff.mpr h
  rw [show (some (1 : Int)) = some ((1 : Nat) : Int) from rfl, e] at z
  omega
end K1
set_option Elab.async false
set_option linter.all false
set_option maxRecDepth 100000
set_option maxHeartbeats 1000000
namespace K1
open PySem PySem.Spec PyProof.Rows L2
open PySem.W (EachIs)
abbrev bigs : Str := Str.ofString "ABCDEFGHIJKLMNOPQRSTUVWXYZ"
structure Ct (mg : Str → Option Value) : Prop extends Cs mg where
  great : ∃ t, mg "GREAT" = some (.str bigs t)
  glet : ∃ t, mg "GAP_LETTERS" = some (.int 4 t)
  mpts : ∃ t, mg "MOST_POINTS" = some (.int 80 t)
  mdeep : ∃ t, mg "MOST_DEEP" = some (.int 12 t)
  mparts : ∃ t, mg "MOST_PARTS" = some (.int 8 t)
  sum : mg "sum" = none
  max : mg "max" = none
  min : mg "min" = none
  sorted : mg "sorted" = none
theorem iteT_ {c : Prop} [Decidable c] {p q : Prop} (h : c) (hp : p) : if c then p else q := by rw [if_pos h]; exact hp
theorem iteF_ {c : Prop} [Decidable c] {p q : Prop} (h : ¬ c) (hq : q) : if c then p else q := by rw [if_neg h]; exact hq
theorem isi_str {K : PySem.W.Frag} {H : Hp} {v : V} {g : G} (h : In K H v g) : ∃ d : PyData, TyX K H v (.type (tyOf d)) ∧ PySem.W.kitOne K (.type (tyOf d)) (.type "str") = some (isS g) := by
  obtain ⟨d, h1, h2, h3⟩ := h.kind
  exact ⟨d, h1, by rw [← h2]; exact kit_str d⟩
theorem isi_tup {K : PySem.W.Frag} {H : Hp} {v : V} {g : G} (h : In K H v g) : ∃ d : PyData, TyX K H v (.type (tyOf d)) ∧ PySem.W.kitOne K (.type (tyOf d)) (.type "tuple") = some (isT g) := by
  obtain ⟨d, h1, h2, h3⟩ := h.kind
  exact ⟨d, h1, by rw [← h3]; exact kit_tup d⟩
theorem empty_app (y : Str) : Str.empty ++ y = y := ext_l (by rw [app_l]; rfl)
theorem fit_line {n m : Nat} (h : n ≤ m) (hm : m ≤ 100000) : n ≤ sizeLine := by rw [sizeLine_eq]; omega
theorem same_J {H1 H : Hp} {D : Addr} (hD : H1 D = none) : ∀ (H : Hp) (ys ys' : List V), Same H1 H → H D = some (.lst ys) → Same H1 (upd H D (.lst ys')) := fun H ys ys' s e b o h => by
  rw [upd_ne (ne_of_none h hD)]
  exact s b o h
theorem vint_ne {a b : Int} (h : a ≠ b) : ¬ decide (V.int a = V.int b) = true := fun z => h (V.int.inj (of_decide_eq_true z))
theorem vint_eq {a b : Int} (h : a = b) : decide (V.int a = V.int b) = true := decide_eq_true (by rw [h])
/-- the promise of a def of one term -/
def sp1 (K : PySem.W.Frag) (n : Nat) (f : G → V) : Sp := fun vs H Q _ => ∃ (v : V) (g : G), vs = [v] ∧ In K H v g ∧ shp g = true ∧ fine g = true ∧ dp g ≤ n ∧ sz g ≤ 2000 ∧ ∀ H', Same H H' → Q (f g) H'
abbrev sText : Stmt := topS 24
abbrev nText : List Str := ["term", "inner", "part"]
section
variable {P : Program} {w : World} {K : PySem.W.Frag} {mg : Str → Option Value} {base : Heap}
theorem sp1_zero {sp : Sp} {ps : List Str} {k : Nat} {f : Addr} {fd : FuncData} (h : ∀ vs H Q E, ¬ sp vs H Q E) : FnOk P w K mg base C8.CX0 k f fd ps sp :=
  ⟨fun vs H Q E q => absurd q (h vs H Q E), fun A outer s H args us vs Q E hr he hb hv hs => absurd hs (h vs H Q E)⟩
theorem no_dp0 {K : PySem.W.Frag} {f : G → V} (vs : List V) (H : Hp) (Q : VK) (E : XK) : ¬ sp1 K 0 f vs H Q E := by
  rintro ⟨v, g, _, _, _, _, h, _⟩
  have := dp_pos g
  omega
theorem scText : FnScope nText ["term"] (defScope sText) := ⟨rfl, rfl, rfl, by decide +kernel, rfl, by decide +kernel, by decide +kernel⟩
theorem ok_text {f : Addr} {fd : FuncData} {n : Nat} (F : Fun K "text_of" "text_of" sText f fd) (IH : Df P w K mg base C8.CX0 "text_of" n ["term"] (sp1 K n fun g => .str (text g))) (T : Ct mg) :
    FnOk P w K mg base C8.CX0 (n + 1) f fd ["term"] (sp1 K (n + 1) fun g => .str (text g)) := by
  refine F.ok scText (fun vs H Q E h => ?_) (fun cdv A outer s H vs Q E hr h => ?_)
  · obtain ⟨v, g, rfl, _⟩ := h
    rfl
  · obtain ⟨v, g, rfl, hin, hs, hf, hd, hz, k⟩ := h
    refine ⟨_, pss_cons (ps_if (pt_val (pe_callB call_isi (by rfl) T.isi boot_isinstance (pa_cons (pv 0) (pa_cons (pe_bltn (v := .ty "str") (by rfl) T.str boot_str rfl) pa_nil)))) (pss_one (ps_ret (pv 0))) pss_nil)
      (pss_cons (ps_if (pt_cmpR op_eq (pe_callB call_len (by rfl) T.len PySem.boot_len (pa_cons (pv 0) pa_nil)) pe_int (nomark _)) (pss_one (ps_ret (pe_ix ix_tup (pv 0) pe_int (fun _ _ => rfl)))) pss_nil)
      (pss_cons (ps_set (i := 1) scText.nd rfl (Or.inl rfl) (pe_join pe_str (pe_lc (own := [("part", 2)]) (g := gName 2) (tt := tYes) rfl scText.nd (pi_tup (pe_slice sl_tup (pv 0) (po_some pe_int) po_none)) (blkOk_by (N := nText) (sc := defScope sText) (by decide +kernel)) (fun _ _ _ _ _ => pg_name (i := 2) scText.nd rfl (Or.inl rfl)) (fun _ _ _ _ _ => pts_nil)
        (fun _ _ _ _ _ => pe_df IH hr pass0 (pa_cons (pv 2) pa_nil) (Nat.le_refl _)))))
      (pss_one (ps_ret (pe_joined (.cons (pe_fmt (pe_ix ix_tup (pv 0) pe_int (fun _ _ => rfl))) (.cons pe_str (.cons (pe_fmt (pv 1)) (.cons pe_str .nil))))))))), ?_⟩
    obtain ⟨d, t1, t2⟩ := isi_str hin
    refine ⟨_, rfl, _, _, _, _, _, rfl, .ty "str", t1, t2, _, rfl, ?_⟩
    rcases shp_cases hs with ⟨x, rfl⟩ | ⟨y, ps, rfl, hp⟩
    · refine iteT ⟨_, rfl, ?_⟩
      rw [hin.str]
      have q1 : Q (.str (text (.s x))) H := k H (Same.refl H)
      rw [show text (.s x) = x by rw [text]] at q1
      exact q1
    · refine iteF ?_
      obtain ⟨a, xs, rfl, hx, hg⟩ := hin.tup
      have hlen := hg.len
      have hsl := sz_len (.s y :: ps)
      have hy := hd_len (fine_mem hf (p := .s y) List.mem_cons_self)
      have hx0 : xs[0]? = some (.str y) := by
        obtain ⟨v0, e0, h0⟩ := hg.get (i := 0) rfl
        rw [e0, h0.str]
      refine ⟨_, rfl, .ref a, xs.length, rfl, .inr ⟨xs, hx, rfl⟩, rfl, _, rfl, ?_⟩
      cases ps with
      | nil =>
        refine iteT_ (by rw [hlen]; exact vint_eq rfl) ⟨_, rfl, a, xs, 0, _, rfl, rfl, hx, atI_nat (j := 0) hx0, ?_⟩
        have q1 : Q (.str (text (.t [.s y]))) H := k H (Same.refl H)
        rw [text_one] at q1
        exact q1
      | cons p ps =>
        refine iteF_ (vint_ne (by rw [hlen]; simp only [List.length_cons]; omega)) ?_
        have hne : xs ≠ [] := fun z => by rw [z] at hlen; cases hlen
        refine ⟨⟨_, rfl⟩, _, rfl, _, rfl, a, xs, rfl, hx, whole_1 hne, fun q hq => ⟨q, rfl, ⟨_, SqT.of upd_same⟩, fun D hD => ?_⟩⟩
        have sq := Same.new (o := .tup (cutV xs (some 1) none)) (Same.refl H) hq
        have hgd : InL K (upd H q (.tup (cutV xs (some 1) none))) (cutV xs (some 1) none) (p :: ps) := by
          have z := (hg.drop 1).same sq
          rw [← cut_1] at z
          exact z
        refine lc_in (K := K) (gs := p :: ps) (J := fun H' => Same (upd H q (.tup (cutV xs (some 1) none))) H') (fun H y g => y = .str (text g)) hD (SqT.of upd_same) hgd ?_ (fun y g H H' h _ => h) (fun _ => rfl) (same_J (H := H) hD) (Same.new (Same.refl _) hD) ?_ ?_
        · rw [hgd.len]
          simp only [List.length_cons] at hsl ⊢
          omega
        · intro x g H' hgm hxin e hj Q' q'
          have hgm' : g ∈ .s y :: p :: ps := List.mem_cons_of_mem _ hgm
          exact ⟨x, rfl, x, g, rfl, hxin, hp g hgm, fine_mem hf hgm', dp_mem hd hgm', by have := sz_mem hgm'; omega, fun H'' s'' => q' _ _ (.of s'') (hj.trans s'') rfl⟩
        · intro H' ys e hj eD hr
          have hys := each_val (f := fun g => V.str (text g)) hr
          have hys2 : ys = ((p :: ps).map text).map V.str := by rw [hys, List.map_map]; rfl
          subst hys2
          have htl := text_len _ _ (Nat.le_refl _) hf
          have hjl := join_len (Str.ofString ",") ((p :: ps).map text)
          have e3 : (Str.ofString ",").length = 1 := by decide +kernel
          rw [e3, Nat.mul_one] at hjl
          have hsum : (((p :: ps).map text).map (·.length)).sum + ((p :: ps).map text).length ≤ 26000 := by
            rw [List.map_map, List.length_map, ← succ_sum]
            have hs : ((p :: ps).map fun q => (text q).length + 1).sum ≤ ((p :: ps).map fun q => 13 * sz q).sum := sum_map_le fun q hq => text_len _ q (Nat.le_refl _) (fine_mem hf (List.mem_cons_of_mem _ hq))
            have e5 : ((p :: ps).map fun q => 13 * sz q).sum = 13 * ((p :: ps).map sz).sum := by
              rw [← sum_mul, List.map_map]
              rfl
            rw [sz_t, List.map_cons, List.sum_cons] at hz
            have := sz_pos (.s y)
            omega
          have hxT := (sq.trans hj)
          have lp : (Str.ofString "(").length = 1 := by decide +kernel
          have rp : (Str.ofString ")").length = 1 := by decide +kernel
          have hyl : y.length ≤ 10 := hy
          refine ⟨_, D, (p :: ps).map text, rfl, rfl, .inl (SqL.of eD), by rw [e3, Nat.mul_one]; omega, ?_⟩
          refine ⟨_, rfl, a, xs, 0, _, rfl, rfl, sqt_same hxT hx, atI_nat (j := 0) hx0, .inl ⟨y, rfl, fit_line hyl (by decide), y, rfl, ?_, _, rfl, ?_, _, rfl, .inl ⟨_, rfl, ?_, _, rfl, ?_, _, rfl, ?_, ?_⟩⟩⟩
          · rw [empty_app]
            exact fit_line hyl (by decide)
          · rw [empty_app, app_len, lp]
            exact fit_line (m := 20) (by omega) (by decide)
          · exact fit_line (m := 26000) (by omega) (by decide)
          · rw [empty_app, app_len, app_len, lp]
            exact fit_line (m := 26100) (by omega) (by decide)
          · rw [empty_app, app_len, app_len, app_len, lp, rp]
            exact fit_line (m := 26100) (by omega) (by decide)
          · have q1 : Q (.str (text (.t (.s y :: p :: ps)))) H' := k H' hxT
            rw [text_more] at q1
            rw [empty_app]
            exact q1
end
end K1
set_option Elab.async false
set_option linter.all false
set_option maxRecDepth 100000
set_option maxHeartbeats 1000000
namespace K1
open PySem PySem.Spec PyProof.Rows L2
open PySem.W (EachIs)
theorem units10 {k : Nat} {A : Around} (r : Room k A) : A.units + 10 < cLine := by
  have := r.un
  omega
section
variable {P : Program} {w : World} {K : PySem.W.Frag} {mg : Str → Option Value} {base : Heap}
theorem ne_nil {H : Hp} {xs : List V} {g : G} {ps : List G} (hg : InL K H xs (g :: ps)) : xs ≠ [] := fun z => by
  have hlen := hg.len
  rw [z] at hlen
  cases hlen
/-- [f(part) for part in term[1:]], behind the slice -/
theorem rd2 {n : Nat} {f : G → V} {σ : L2.St} {H : Hp} {xs : List V} {y : Str} {ps : List G} {j : Nat} {q D : Addr} {Qd : Hp → Prop} (hg : InL K H xs (.s y :: ps)) (hp : ∀ p ∈ ps, shp p = true)
    (hf : fine (.t (.s y :: ps)) = true) (hd : dp (.t (.s y :: ps)) ≤ n + 1) (hz : sz (.t (.s y :: ps)) ≤ 2000) (hq : H q = none) (hD : upd H q (.tup (cutV xs (some 1) none)) D = none)
    (hw : ∀ x, wipe ((wipe σ [j]).set j (some x)) [j] = wipe σ [j]) (hj : ∀ x, ((wipe σ [j]).set j (some x))[j]? = some (some x))
    (fin : ∀ H', Same H H' → H' D = some (.lst (ps.map f)) → Qd H') :
    ∃ W : Nat → Nat → Hp → Prop, (∃ m, W 0 m (upd (upd H q (.tup (cutV xs (some 1) none))) D (.lst []))) ∧ ∀ i m H, W i m H →
      ((Itt K q).stop i H ∧ Qd H) ∨ ((Itt K q).go i H ∧ ∃ Nx : Hp → Prop, (∀ H', Nx H' → ∃ m', m' < m ∧ W (i + 1) m' H') ∧ ∀ x H', (Itt K q).yld i H x H' → gName j x (wipe σ [j]) H' fun σ2 H2 => wipe σ2 [j] = wipe σ [j] ∧ tYes σ2 H2 fun b H3 =>
        if b = true then tCall (sp1 K n f) [] C8.E0 (tCons (tVar j) tNil) σ2 H3 fun y H4 => ∃ acc, H4 D = some (.lst acc) ∧ acc.length < sizeLine ∧ Nx (upd H4 D (.lst (acc ++ [y]))) else Nx H3) := by
  have hlen := hg.len
  have hsl := sz_len (.s y :: ps)
  have sq := Same.new (o := .tup (cutV xs (some 1) none)) (Same.refl H) hq
  have hgd : InL K (upd H q (.tup (cutV xs (some 1) none))) (cutV xs (some 1) none) ps := by
    have z := (hg.drop 1).same sq
    rw [← cut_1] at z
    exact z
  refine lc_in (K := K) (gs := ps) (J := fun H' => Same (upd H q (.tup (cutV xs (some 1) none))) H') (fun H y g => y = f g) hD (SqT.of upd_same) hgd ?_ (fun y g H H' h _ => h) hw (same_J (H := H) hD) (Same.new (Same.refl _) hD) ?_ ?_
  · rw [hgd.len]
    simp only [List.length_cons] at hsl
    omega
  · intro x g H' hgm hxin e hjj Q' q'
    have hgm' : g ∈ .s y :: ps := List.mem_cons_of_mem _ hgm
    exact ⟨x, hj x, x, g, rfl, hxin, hp g hgm, fine_mem hf hgm', dp_mem hd hgm', by have := sz_mem hgm'; omega, fun H'' s'' => q' _ _ (.of s'') (hjj.trans s'') rfl⟩
  · intro H' ys e hjj eD hr
    rw [each_val hr] at eD
    exact fin H' (sq.trans hjj) eD
theorem int_sum : ∀ ns : List Nat, (ns.map fun n : Nat => (n : Int)).sum = ((ns.sum : Nat) : Int)
  | [] => rfl
  | n :: r => by
    rw [List.map_cons, List.sum_cons, List.sum_cons, int_sum r]
    omega
theorem ints_map (f : G → Nat) (ps : List G) : (ps.map fun g => V.int (f g)) = ((ps.map f).map fun n : Nat => (n : Int)).map V.int := by
  rw [List.map_map, List.map_map]
  rfl
abbrev sPts : Stmt := topS 25
abbrev sDeep : Stmt := topS 26
abbrev sWide : Stmt := topS 27
abbrev sBeyond : Stmt := topS 28
theorem scPts : FnScope ["term", "part"] ["term"] (defScope sPts) := ⟨rfl, rfl, rfl, by decide +kernel, rfl, by decide +kernel, by decide +kernel⟩
theorem ok_pts {f : Addr} {fd : FuncData} {n : Nat} (F : Fun K "points_of" "points_of" sPts f fd) (IH : Df P w K mg base C8.CX0 "points_of" n ["term"] (sp1 K n fun g => .int (points g))) (T : Ct mg) :
    FnOk P w K mg base C8.CX0 (n + 1) f fd ["term"] (sp1 K (n + 1) fun g => .int (points g)) := by
  refine F.ok scPts (fun vs H Q E h => ?_) (fun cdv A outer s H vs Q E hr h => ?_)
  · obtain ⟨v, g, rfl, _⟩ := h
    rfl
  · obtain ⟨v, g, rfl, hin, hs, hf, hd, hz, k⟩ := h
    refine ⟨_, pss_cons (ps_if (pt_val (pe_callB call_isi (by rfl) T.isi boot_isinstance (pa_cons (pv 0) (pa_cons (pe_bltn (v := .ty "str") (by rfl) T.str boot_str rfl) pa_nil)))) (pss_one (ps_ret pe_int)) pss_nil)
      (pss_one (ps_ret (pe_op op_add pe_int (pe_callB (cr_sum rfl) (by rfl) T.sum (by decide +kernel) (pa_cons (pe_lc (own := [("part", 1)]) (g := gName 1) (tt := tYes) rfl scPts.nd (pi_tup (pe_slice sl_tup (pv 0) (po_some pe_int) po_none)) (blkOk_by (N := ["term", "part"]) (sc := defScope sPts) (by decide +kernel)) (fun _ _ _ _ _ => pg_name (i := 1) scPts.nd rfl (Or.inl rfl)) (fun _ _ _ _ _ => pts_nil)
        (fun _ _ _ _ _ => pe_df IH hr pass0 (pa_cons (pv 1) pa_nil) (Nat.le_refl _))) pa_nil))))), ?_⟩
    obtain ⟨d, t1, t2⟩ := isi_str hin
    refine ⟨_, rfl, _, _, _, _, _, rfl, .ty "str", t1, t2, _, rfl, ?_⟩
    have k' : ∀ H', Same H H' → Q (.int (points g)) H' := k
    rcases shp_cases hs with ⟨x, rfl⟩ | ⟨y, ps, rfl, hp⟩
    · refine iteT ?_
      have q1 := k' H (Same.refl H)
      rw [show points (.s x) = 1 by simp [points]] at q1
      exact q1
    · refine iteF ?_
      obtain ⟨a, xs, rfl, hx, hg⟩ := hin.tup
      refine ⟨_, rfl, _, rfl, a, xs, rfl, hx, whole_1 (ne_nil hg), fun q hq => ⟨q, rfl, ⟨_, SqT.of upd_same⟩, fun D hD => rd2 hg hp hf hd hz hq hD (fun _ => rfl) (fun _ => rfl) (fun H' sm eD => ⟨D, (ps.map points).map fun n : Nat => (n : Int), rfl, SqL.of (by rw [eD, ints_map]), _, _, rfl, rfl, ?_⟩)⟩⟩
      have q1 := k' H' sm
      rw [points_t] at q1
      rw [int_sum]
      exact q1
theorem scDeep : FnScope ["term", "part"] ["term"] (defScope sDeep) := ⟨rfl, rfl, rfl, by decide +kernel, rfl, by decide +kernel, by decide +kernel⟩
theorem maxl_of {ns : List Nat} {m : Int} (hm : m ∈ ns.map fun n : Nat => (n : Int)) (h : ∀ y ∈ ns.map fun n : Nat => (n : Int), y ≤ m) : m = ((maxl ns : Nat) : Int) := by
  obtain ⟨k, hk, rfl⟩ := List.mem_map.mp hm
  have h1 := le_maxl hk
  have h2 : maxl ns ≤ k := maxl_le.mpr fun n hn => by
    have := h n (List.mem_map.mpr ⟨n, hn, rfl⟩)
    omega
  have : k = maxl ns := by omega
  rw [this]
theorem ok_deep {f : Addr} {fd : FuncData} {n : Nat} (F : Fun K "deep_of" "deep_of" sDeep f fd) (IH : Df P w K mg base C8.CX0 "deep_of" n ["term"] (sp1 K n fun g => .int (deep g))) (T : Ct mg) :
    FnOk P w K mg base C8.CX0 (n + 1) f fd ["term"] (sp1 K (n + 1) fun g => .int (deep g)) := by
  refine F.ok scDeep (fun vs H Q E h => ?_) (fun cdv A outer s H vs Q E hr h => ?_)
  · obtain ⟨v, g, rfl, _⟩ := h
    rfl
  · obtain ⟨v, g, rfl, hin, hs, hf, hd, hz, k⟩ := h
    refine ⟨_, pss_cons (ps_if (pt_val (pe_callB call_isi (by rfl) T.isi boot_isinstance (pa_cons (pv 0) (pa_cons (pe_bltn (v := .ty "str") (by rfl) T.str boot_str rfl) pa_nil)))) (pss_one (ps_ret pe_int)) pss_nil)
      (pss_one (ps_ret (pe_op op_add pe_int (pe_callBK (SrtF.cr_maxDf rfl (units10 hr)) (by rfl) T.max (by decide +kernel) (pa_cons (pe_lc (own := [("part", 1)]) (g := gName 1) (tt := tYes) rfl scDeep.nd (pi_tup (pe_slice sl_tup (pv 0) (po_some pe_int) po_none)) (blkOk_by (N := ["term", "part"]) (sc := defScope sDeep) (by decide +kernel)) (fun _ _ _ _ _ => pg_name (i := 1) scDeep.nd rfl (Or.inl rfl)) (fun _ _ _ _ _ => pts_nil)
        (fun _ _ _ _ _ => pe_df IH hr pass0 (pa_cons (pv 1) pa_nil) (Nat.le_refl _))) pa_nil) (pk_cons pe_int pk_nil))))), ?_⟩
    obtain ⟨d, t1, t2⟩ := isi_str hin
    refine ⟨_, rfl, _, _, _, _, _, rfl, .ty "str", t1, t2, _, rfl, ?_⟩
    have k' : ∀ H', Same H H' → Q (.int (deep g)) H' := k
    rcases shp_cases hs with ⟨x, rfl⟩ | ⟨y, ps, rfl, hp⟩
    · refine iteT ?_
      have q1 := k' H (Same.refl H)
      rw [show deep (.s x) = 1 by simp [deep]] at q1
      exact q1
    · refine iteF ?_
      obtain ⟨a, xs, rfl, hx, hg⟩ := hin.tup
      refine ⟨_, rfl, _, rfl, a, xs, rfl, hx, whole_1 (ne_nil hg), fun q hq => ⟨q, rfl, ⟨_, SqT.of upd_same⟩, fun D hD => rd2 hg hp hf hd hz hq hD (fun _ => rfl) (fun _ => rfl) (fun H' sm eD => ⟨D, (ps.map deep).map fun n : Nat => (n : Int), 0, rfl, rfl, SqL.of (by rw [eD, ints_map]), fun e0 => ⟨_, _, rfl, rfl, ?_⟩, fun m hm hmx => ⟨_, _, rfl, rfl, ?_⟩⟩)⟩⟩
      · have q1 := k' H' sm
        have e1 : ps = [] := by simpa using e0
        subst e1
        rw [deep_t] at q1
        exact q1
      · have q1 := k' H' sm
        rw [deep_t] at q1
        rw [maxl_of hm hmx]
        exact q1
theorem scWide : FnScope ["term", "part"] ["term"] (defScope sWide) := ⟨rfl, rfl, rfl, by decide +kernel, rfl, by decide +kernel, by decide +kernel⟩
theorem ok_wide {f : Addr} {fd : FuncData} {n : Nat} (F : Fun K "widest_of" "widest_of" sWide f fd) (IH : Df P w K mg base C8.CX0 "widest_of" n ["term"] (sp1 K n fun g => .int (wide g))) (T : Ct mg) :
    FnOk P w K mg base C8.CX0 (n + 1) f fd ["term"] (sp1 K (n + 1) fun g => .int (wide g)) := by
  refine F.ok scWide (fun vs H Q E h => ?_) (fun cdv A outer s H vs Q E hr h => ?_)
  · obtain ⟨v, g, rfl, _⟩ := h
    rfl
  · obtain ⟨v, g, rfl, hin, hs, hf, hd, hz, k⟩ := h
    refine ⟨_, pss_cons (ps_if (pt_val (pe_callB call_isi (by rfl) T.isi boot_isinstance (pa_cons (pv 0) (pa_cons (pe_bltn (v := .ty "str") (by rfl) T.str boot_str rfl) pa_nil)))) (pss_one (ps_ret pe_int)) pss_nil)
      (pss_one (ps_ret (pe_callB (cr_max rfl) (by rfl) T.max (by decide +kernel) (pa_cons (pe_op op_cat (pe_lst (pa_cons (pe_op op_sub (pe_callB call_len (by rfl) T.len PySem.boot_len (pa_cons (pv 0) pa_nil)) pe_int) pa_nil)) (pe_lc (own := [("part", 1)]) (g := gName 1) (tt := tYes) rfl scWide.nd (pi_tup (pe_slice sl_tup (pv 0) (po_some pe_int) po_none)) (blkOk_by (N := ["term", "part"]) (sc := defScope sWide) (by decide +kernel)) (fun _ _ _ _ _ => pg_name (i := 1) scWide.nd rfl (Or.inl rfl)) (fun _ _ _ _ _ => pts_nil)
        (fun _ _ _ _ _ => pe_df IH hr pass0 (pa_cons (pv 1) pa_nil) (Nat.le_refl _)))) pa_nil)))), ?_⟩
    obtain ⟨d, t1, t2⟩ := isi_str hin
    refine ⟨_, rfl, _, _, _, _, _, rfl, .ty "str", t1, t2, _, rfl, ?_⟩
    have k' : ∀ H', Same H H' → Q (.int (wide g)) H' := k
    rcases shp_cases hs with ⟨x, rfl⟩ | ⟨y, ps, rfl, hp⟩
    · refine iteT ?_
      have q1 := k' H (Same.refl H)
      rw [show wide (.s x) = 0 by simp [wide]] at q1
      exact q1
    · refine iteF ?_
      obtain ⟨a, xs, rfl, hx, hg⟩ := hin.tup
      have hlen := hg.len
      have hsl := sz_len (.s y :: ps)
      refine ⟨_, rfl, .ref a, xs.length, rfl, .inr ⟨xs, hx, rfl⟩, _, _, rfl, rfl, (by show 1 ≤ sizeLine; decide), fun l hl => ?_⟩
      have s1 := Same.new (o := .lst [.int ((xs.length : Int) - 1)]) (Same.refl H) hl
      refine ⟨_, rfl, _, rfl, a, xs, rfl, sqt_same s1 hx, whole_1 (ne_nil hg), fun q hq => ⟨q, rfl, ⟨_, SqT.of upd_same⟩, fun D hD => rd2 (hg.same s1) hp hf hd hz hq hD (fun _ => rfl) (fun _ => rfl) (fun H' sm eD => ⟨l, D, _, _, rfl, rfl, sm _ _ upd_same, eD, ?_, fun p hp => ⟨p, ((ps.length :: ps.map wide).map fun n : Nat => (n : Int)), rfl, SqL.of ?_, ?_, fun m hm hmx => ?_⟩⟩)⟩⟩
      · rw [List.length_map, sizeLine_eq]
        simp only [List.length_cons, List.length_nil] at hsl ⊢
        omega
      · rw [upd_same, hlen, ints_map wide ps, List.length_cons, List.map_cons, List.map_cons]
        congr 2
        simp
      · simp
      · rw [maxl_of hm hmx]
        have e : maxl (ps.length :: ps.map wide) = wide (.t (.s y :: ps)) := (wide_t _ _).symm
        rw [e]
        exact k' _ (Same.new (s1.trans sm) hp)
theorem scBeyond : FnScope ["term"] ["term"] (defScope sBeyond) := ⟨rfl, rfl, rfl, by decide +kernel, rfl, by decide +kernel, by decide +kernel⟩
def beyond (g : G) : Bool := decide (80 < points g) || (decide (12 < deep g) || decide (8 < wide g))
theorem ok_beyond {f : Addr} {fd : FuncData} {n : Nat} (F : Fun K "is_beyond" "is_beyond" sBeyond f fd) (DP : Df P w K mg base C8.CX0 "points_of" n ["term"] (sp1 K n fun g => .int (points g))) (DD : Df P w K mg base C8.CX0 "deep_of" n ["term"] (sp1 K n fun g => .int (deep g)))
    (DW : Df P w K mg base C8.CX0 "widest_of" n ["term"] (sp1 K n fun g => .int (wide g))) (T : Ct mg) : FnOk P w K mg base C8.CX0 (n + 1) f fd ["term"] (sp1 K n fun g => .bl (beyond g)) := by
  refine F.ok scBeyond (fun vs H Q E h => ?_) (fun cdv A outer s H vs Q E hr h => ?_)
  · obtain ⟨v, g, rfl, _⟩ := h
    rfl
  · obtain ⟨v, g, rfl, hin, hs, hf, hd, hz, k⟩ := h
    obtain ⟨_, hmp⟩ := T.mpts
    obtain ⟨_, hmd⟩ := T.mdeep
    obtain ⟨_, hmr⟩ := T.mparts
    refine ⟨_, pss_one (ps_ret (pe_or (pe_cmpR op_gt (pe_df DP hr pass0 (pa_cons (pv 0) pa_nil) (Nat.le_refl _)) (pe_glob (v := .int 80) (by rfl) hmp ⟨_, rfl⟩) (nomark _))
      (pe_or (pe_cmpR op_gt (pe_df DD hr pass0 (pa_cons (pv 0) pa_nil) (Nat.le_refl _)) (pe_glob (v := .int 12) (by rfl) hmd ⟨_, rfl⟩) (nomark _))
      (pe_one (pe_cmpR op_gt (pe_df DW hr pass0 (pa_cons (pv 0) pa_nil) (Nat.le_refl _)) (pe_glob (v := .int 8) (by rfl) hmr ⟨_, rfl⟩) (nomark _)))))), ?_⟩
    have hq : ∀ b H', b = beyond g → Same H H' → Q (.bl b) H' := fun b H' e sm => by
      rw [e]
      exact k H' sm
    refine ⟨_, rfl, v, g, rfl, hin, hs, hf, hd, hz, fun H1 s1 => ⟨_, _, rfl, rfl, _, rfl, ?_⟩⟩
    refine ite2 (fun h1 => hq _ _ ?_ s1) (fun h1 => ?_)
    · have h1' : (80 : Int) < (points g : Int) := by simpa using h1
      unfold beyond
      rw [decide_eq_true (show 80 < points g by omega)]
      rfl
    · have h1' : ¬ (80 : Int) < (points g : Int) := by simpa using h1
      refine ⟨_, rfl, v, g, rfl, hin.same s1, hs, hf, hd, hz, fun H2 s2 => ⟨_, _, rfl, rfl, _, rfl, ?_⟩⟩
      refine ite2 (fun h2 => hq _ _ ?_ (s1.trans s2)) (fun h2 => ?_)
      · have h2' : (12 : Int) < (deep g : Int) := by simpa using h2
        unfold beyond
        rw [decide_eq_true (show 12 < deep g by omega), Bool.true_or, Bool.or_true]
      · have h2' : ¬ (12 : Int) < (deep g : Int) := by simpa using h2
        refine ⟨_, rfl, v, g, rfl, (hin.same s1).same s2, hs, hf, hd, hz, fun H3 s3 => ⟨_, _, rfl, rfl, hq _ _ ?_ ((s1.trans s2).trans s3)⟩⟩
        unfold beyond
        rw [decide_eq_false (show ¬ 80 < points g by omega), decide_eq_false (show ¬ 12 < deep g by omega), Bool.false_or, Bool.false_or]
        by_cases h3 : 8 < wide g
        · rw [decide_eq_true h3, decide_eq_true (by omega)]
        · rw [decide_eq_false h3, decide_eq_false (by omega)]
end
end K1
set_option Elab.async false
set_option linter.all false
set_option maxRecDepth 100000
set_option maxHeartbeats 1000000
namespace K1
open PySem PySem.Spec PyProof.Rows L2
open PySem.W (EachIs)
/-! ### signs as lines: a name, a kind, how many parts -/
abbrev Ln := Str × Str × Nat
def rowD (l : Ln) : PyData := .tuple [.str l.1, .str l.2.1, .int l.2.2]
def find : List Ln → Str → Option Ln
  | [], _ => none
  | l :: L, x => if l.1 = x then some l else find L x
abbrev kinds4 : List Str := ["plain", "pair", "row", "heap"]
structure LOk (L : List Ln) : Prop where
  kd : ∀ l ∈ L, l.2.1 ∈ kinds4
  pr : ∀ l ∈ L, l.2.1 = "pair" → l.2.2 = 2
  nm : ∀ l ∈ L, nameB l.1 = true
  len : L.length ≤ 24
  sm : ∀ l ∈ L, l.2.2 ≤ 4
theorem find_mem : ∀ {L : List Ln} {x : Str} {l : Ln}, find L x = some l → l ∈ L ∧ l.1 = x
  | [], _, _, h => by cases h
  | m :: L, x, l, h => by
    unfold find at h
    by_cases e : m.1 = x
    · rw [if_pos e] at h
      cases h
      exact ⟨List.mem_cons_self, e⟩
    · rw [if_neg e] at h
      obtain ⟨h1, h2⟩ := find_mem h
      exact ⟨List.mem_cons_of_mem _ h1, h2⟩
theorem find_none : ∀ {L : List Ln} {x : Str}, find L x = none ↔ x ∉ L.map (·.1)
  | [], x => by simp [find]
  | m :: L, x => by
    unfold find
    by_cases e : m.1 = x
    · rw [if_pos e]
      simp [e]
    · rw [if_neg e, find_none]
      simp [Ne.symm e]
/-- is it one of these two kinds -/
def kin (a b k : Str) : Bool := [PyData.str a, PyData.str b].any fun z => PyData.eqv z (.str k)
def rowish (k : Str) : Bool := kin "row" "heap" k
def loose (k : Str) : Bool := kin "pair" "heap" k
def plainish (k : Str) : Bool := kin "plain" "pair" k
theorem kinds_ok : ∀ k ∈ kinds4, SeqAt.shaped (.str k) = true ∧ (plainish k = !rowish k) ∧ k.length ≤ 5 ∧ PyData.strOk k = true := by decide +kernel
def hasParts (L : List Ln) (h : G) (n : Nat) : Bool := match h with
  | .s x => match find L x with
    | none => false
    | some l => if rowish l.2.1 then decide (2 ≤ n ∧ n ≤ 8) else decide (n = l.2.2)
  | _ => false
/-- signs of these lines stand at p -/
def SgL (K : PySem.W.Frag) (C : Addr) (H : Hp) (p : Addr) (L : List Ln) : Prop := ∃ rt td xs, SgAt K C H p rt td xs (L.map (·.1)) ∧ DpAll K H xs (L.map rowD)
theorem dpr_ext {K : PySem.W.Frag} {H H' : Hp} (s : Ext H H') : ∀ {xs : List V} (L : List Ln), DpAll K H xs (L.map rowD) → DpAll K H' xs (L.map rowD)
  | _, [], .nil => .nil
  | _, l :: L, .cons h t => by
    refine .cons ?_ (dpr_ext s L t)
    cases h with
    | tup ht ha =>
      obtain ⟨a1, r, rfl, h1, t1⟩ := one_more ha
      obtain ⟨a2, r, rfl, h2, t2⟩ := one_more t1
      obtain ⟨a3, r, rfl, h3, t3⟩ := one_more t2
      cases no_more t3
      cases h1
      cases h2
      cases h3
      exact .tup (s.sqt ht) (.cons (.str _) (.cons (.str _) (.cons (.int _) .nil)))
theorem SgL.ext {K : PySem.W.Frag} {C : Addr} {H H' : Hp} {p : Addr} {L : List Ln} (s : Ext H H') (h : SgL K C H p L) : SgL K C H' p L := by
  obtain ⟨rt, td, xs, ⟨⟨dx, h1⟩, h2, h3, h4, h5⟩, h6⟩ := h
  exact ⟨rt, td, xs, ⟨⟨dx, s _ _ h1 (by intro _ z; cases z)⟩, s.sqt h2, s _ _ h3 (by intro _ z; cases z), h4, h5⟩, dpr_ext s L h6⟩
theorem SgL.same {K : PySem.W.Frag} {C : Addr} {H H' : Hp} {p : Addr} {L : List Ln} (s : Same H H') (h : SgL K C H p L) : SgL K C H' p L := h.ext (.of s)
theorem val_find {K : PySem.W.Frag} {H : Hp} {x : Str} : ∀ {L : List Ln} {xs : List V} {l : Ln}, DpAll K H xs (L.map rowD) → find L x = some l →
    ∃ b, valV (kvsOf (L.map (·.1)) xs) (Sum.inr x : Key) = some (.ref b) ∧ SqT K H b [.str l.1, .str l.2.1, .int l.2.2]
  | [], _, _, _, h => by cases h
  | m :: L, _, l, .cons (v := v) (vs := vs) h t, hf => by
    obtain ⟨b, vk, vm, rfl, hb, hk, hm⟩ := row_of h
    cases hk
    cases hm
    unfold find at hf
    by_cases e : m.1 = x
    · rw [if_pos e] at hf
      cases hf
      refine ⟨b, ?_, hb⟩
      exact valV_pos (p := ((Sum.inr m.1 : Key), V.ref b)) (by rw [e])
    · rw [if_neg e] at hf
      obtain ⟨b', h1, h2⟩ := val_find t hf
      refine ⟨b', ?_, h2⟩
      rw [← h1]
      exact valV_neg (p := ((Sum.inr m.1 : Key), V.ref b)) (fun z => e (Sum.inr.inj z))
def hasG (ns : List Str) : G → Bool
  | .s x => decide (x ∈ ns)
  | _ => false
def spHasG (K : PySem.W.Frag) (C : Addr) : Sp := fun vs H Q _ => ∃ (p : Addr) (L : List Ln) (v : V) (g : G), vs = [.ref p, v] ∧ SgL K C H p L ∧ In K H v g ∧ Q (.bl (hasG (L.map (·.1)) g)) H
def spKindG (K : PySem.W.Frag) (C : Addr) : Sp := fun vs H Q _ => ∃ (p : Addr) (L : List Ln) (x : Str) (l : Ln), vs = [.ref p, .str x] ∧ SgL K C H p L ∧ find L x = some l ∧ Q (.str l.2.1) H
def spManyG (K : PySem.W.Frag) (C : Addr) : Sp := fun vs H Q _ => ∃ (p : Addr) (L : List Ln) (x : Str) (l : Ln), vs = [.ref p, .str x] ∧ SgL K C H p L ∧ find L x = some l ∧ Q (.int l.2.2) H
def gapB (x : Str) : Bool := decide (1 ≤ x.length ∧ x.length ≤ 4) && (decide (x.cps.toList.headD 0 ∈ bigs.cps.toList) && (x.cps.toList.drop 1).all isLow)
abbrev sGap : Stmt := topS 17
abbrev sHasParts : Stmt := topS 29
section
variable {P : Program} {w : World} {K : PySem.W.Frag} {mg : Str → Option Value} {base : Heap}
theorem ok_hasG {f C : Addr} {fd : FuncData} (F : Fun K "has" "Signs.has" sHas f fd) (T : Ct mg) (G : SgC K C) : FnOk P w K mg base C8.CX0 1 f fd ["self", "name"] (spHasG K C) := by
  refine F.ok scHas (fun vs H Q E h => ?_) (fun cdv A outer s H vs Q E hr h => ?_)
  · obtain ⟨p, L, v, g, rfl, _⟩ := h
    rfl
  · obtain ⟨p, L, v, g, rfl, ⟨rt, td, xs, ⟨⟨dx, hp⟩, hrt, htd, hl, _⟩, _⟩, hin, k⟩ := h
    have hu' := hu_of hr
    refine ⟨_, pss_one (ps_ret (pe_and (pe_callB call_isi (by rfl) T.isi boot_isinstance (pa_cons (pv 1) (pa_cons (pe_bltn (v := .ty "str") (by rfl) T.str boot_str rfl) pa_nil)))
      (pe_one (pe_cmp (pc_din hu' (pv 1) (pe_fld (pv 0) rfl)))))), ?_⟩
    obtain ⟨d, t1, t2⟩ := isi_str hin
    refine ⟨_, rfl, _, _, _, _, _, rfl, .ty "str", t1, t2, _, rfl, ?_⟩
    cases g with
    | s x =>
      obtain rfl := hin.str
      refine iteT ⟨_, rfl, _, rfl, p, C, dx, _, _, rfl, hp, G.cl, G.nT, sgF_table rt td, td, _, rfl, DGet.k (k := Sum.inr x) htd, ?_⟩
      rw [val_kvs x _ xs hl]
      exact k
    | _ => exact k
theorem ok_kindG {f C : Addr} {fd : FuncData} (F : Fun K "kind" "Signs.kind" sKind f fd) (MH : Mt P w K mg base C8.CX0 C "has" 1 ["self", "name"] (spHasG K C)) (G : SgC K C) : FnOk P w K mg base C8.CX0 2 f fd ["self", "name"] (spKindG K C) := by
  obtain ⟨fh, fdh, FH, mH, bH⟩ := MH.ex
  refine F.ok scKind (fun vs H Q E h => ?_) (fun cdv A outer s H vs Q E hr h => ?_)
  · obtain ⟨p, L, x, l, rfl, _⟩ := h
    rfl
  · obtain ⟨p, L, x, l, rfl, S, hf, k⟩ := h
    have hu' := hu_of hr
    refine ⟨_, pss_cons (ps_if (pt_not (pt_val (pe_meth (pv 0) G.cl mH FH (hr.mono (by decide)) bH .nil pass0 (pa_cons (pv 1) pa_nil)))) (pss_one ps_never) pss_nil)
      (pss_one (ps_ret (pe_ix ix_tup (pe_dget hu' (pe_fld (pv 0) rfl) (pv 1) (fun _ _ => rfl)) pe_int (fun _ _ => rfl)))), ?_⟩
    obtain ⟨rt, td, xs, ⟨⟨dx, hp⟩, hrt, htd, hl, _⟩, hd⟩ := id S
    obtain ⟨b, hv, hb⟩ := val_find hd hf
    have hin : hasG (L.map (·.1)) (.s x) = true := by
      obtain ⟨h1, h2⟩ := find_mem hf
      exact decide_eq_true (List.mem_map.mpr ⟨l, h1, h2⟩)
    refine ⟨_, rfl, p, dx, _, rfl, hp, sgF_no rt td (by decide +kernel) (by decide +kernel), _, rfl, p, L, .str x, .s x, rfl, S, .s x, _, rfl, ?_⟩
    rw [hin]
    refine iteF ?_
    refine ⟨_, rfl, p, C, dx, _, _, rfl, hp, G.cl, G.nT, sgF_table rt td, _, rfl, td, .ref b, rfl, ?_, b, _, 1, _, rfl, rfl, hb, atI_nat (j := 1) rfl, k⟩
    rw [← hv]
    exact DGet.k (k := Sum.inr x) htd
theorem ok_manyG {f C : Addr} {fd : FuncData} (F : Fun K "many" "Signs.many" sMany f fd) (MH : Mt P w K mg base C8.CX0 C "has" 1 ["self", "name"] (spHasG K C)) (G : SgC K C) : FnOk P w K mg base C8.CX0 2 f fd ["self", "name"] (spManyG K C) := by
  obtain ⟨fh, fdh, FH, mH, bH⟩ := MH.ex
  refine F.ok scMany (fun vs H Q E h => ?_) (fun cdv A outer s H vs Q E hr h => ?_)
  · obtain ⟨p, L, x, l, rfl, _⟩ := h
    rfl
  · obtain ⟨p, L, x, l, rfl, S, hf, k⟩ := h
    have hu' := hu_of hr
    refine ⟨_, pss_cons (ps_if (pt_not (pt_val (pe_meth (pv 0) G.cl mH FH (hr.mono (by decide)) bH .nil pass0 (pa_cons (pv 1) pa_nil)))) (pss_one ps_never) pss_nil)
      (pss_one (ps_ret (pe_ix ix_tup (pe_dget hu' (pe_fld (pv 0) rfl) (pv 1) (fun _ _ => rfl)) pe_int (fun _ _ => rfl)))), ?_⟩
    obtain ⟨rt, td, xs, ⟨⟨dx, hp⟩, hrt, htd, hl, _⟩, hd⟩ := id S
    obtain ⟨b, hv, hb⟩ := val_find hd hf
    have hin : hasG (L.map (·.1)) (.s x) = true := by
      obtain ⟨h1, h2⟩ := find_mem hf
      exact decide_eq_true (List.mem_map.mpr ⟨l, h1, h2⟩)
    refine ⟨_, rfl, p, dx, _, rfl, hp, sgF_no rt td (by decide +kernel) (by decide +kernel), _, rfl, p, L, .str x, .s x, rfl, S, .s x, _, rfl, ?_⟩
    rw [hin]
    refine iteF ?_
    refine ⟨_, rfl, p, C, dx, _, _, rfl, hp, G.cl, G.nT, sgF_table rt td, _, rfl, td, .ref b, rfl, ?_, b, _, 2, _, rfl, rfl, hb, atI_nat (j := 2) rfl, k⟩
    rw [← hv]
    exact DGet.k (k := Sum.inr x) htd
theorem scGap : FnScope ["thing"] ["thing"] (defScope sGap) := ⟨rfl, rfl, rfl, by decide +kernel, rfl, by decide +kernel, by decide +kernel⟩
def gapG : G → Bool
  | .s x => gapB x
  | _ => false
def spGap (K : PySem.W.Frag) : Sp := fun vs H Q _ => ∃ (v : V) (g : G), vs = [v] ∧ In K H v g ∧ fine g = true ∧ ∀ H', Same H H' → Q (.bl (gapG g)) H'
theorem cutS_1 (x : Str) : cutS x (some 1) none = ⟨(x.cps.toList.drop 1).toArray⟩ := by
  have e1 : HT.sIx x.length x.length (none : Option Int) = x.length := rfl
  have e2 : HT.sIx x.length 0 (some ((1 : Nat) : Int)) = min 1 x.length := HT.sIx_nat _ _ _
  show (⟨((x.cps.toList.drop (HT.sIx x.length 0 (some 1))).take (HT.sIx x.length x.length (none : Option Int) - HT.sIx x.length 0 (some 1))).toArray⟩ : Str) = _
  rw [show (some (1 : Int)) = some ((1 : Nat) : Int) from rfl, e1, e2]
  have hl := len_toList x
  congr 2
  by_cases h : 1 ≤ x.length
  · rw [Nat.min_eq_left h]
    exact List.take_of_length_le (by rw [List.length_drop]; omega)
  · have h0 : x.length = 0 := by omega
    have : x.cps.toList = [] := List.eq_nil_of_length_eq_zero (by omega)
    rw [this]
    simp
theorem ok_gap {f : Addr} {fd : FuncData} (F : Fun K "is_gap" "is_gap" sGap f fd) (DS : Df P w K mg base C8.CX0 "is_small" 1 ["text"] spSmall) (T : Ct mg) : FnOk P w K mg base C8.CX0 2 f fd ["thing"] (spGap K) := by
  refine F.ok scGap (fun vs H Q E h => ?_) (fun cdv A outer s H vs Q E hr h => ?_)
  · obtain ⟨v, g, rfl, _⟩ := h
    rfl
  · obtain ⟨v, g, rfl, hin, hf, k⟩ := h
    obtain ⟨_, hgl⟩ := T.glet
    obtain ⟨_, hgr⟩ := T.great
    refine ⟨_, pss_one (ps_ret (pe_and (pe_callB call_isi (by rfl) T.isi boot_isinstance (pa_cons (pv 0) (pa_cons (pe_bltn (v := .ty "str") (by rfl) T.str boot_str rfl) pa_nil)))
      (pe_and (pe_chain op_le op_le pe_int (pe_callB call_len (by rfl) T.len PySem.boot_len (pa_cons (pv 0) pa_nil)) (pe_glob (v := .int 4) (by rfl) hgl ⟨_, rfl⟩))
      (pe_and (pe_cmpR op_in_sign (pe_ix ix_str (pv 0) pe_int (fun _ _ => rfl)) (pe_glob (v := .str bigs) (by rfl) hgr ⟨_, rfl⟩) (by rfl))
      (pe_one (pe_df DS hr pass0 (pa_cons (pe_slice sl_str (pv 0) (po_some pe_int) po_none) pa_nil))))))), ?_⟩
    obtain ⟨d, t1, t2⟩ := isi_str hin
    refine ⟨_, rfl, _, _, _, _, _, rfl, .ty "str", t1, t2, _, rfl, ?_⟩
    cases g with
    | s x =>
      obtain rfl := hin.str
      have hl : x.length ≤ 10 := hd_len hf
      have hq : ∀ (b : Bool) (H' : Hp), b = gapB x → Same H H' → Q (.bl b) H' := fun b H' e sm => by
        rw [e]
        exact k H' sm
      refine iteT ?_
      refine ⟨_, rfl, .str x, x.length, rfl, ⟨by rw [sizeLine_eq]; omega, rfl⟩, _, _, rfl, rfl, _, rfl, ?_⟩
      refine ite2 (fun h1 => ?_) (fun h1 => ?_)
      · refine ⟨_, _, rfl, rfl, _, rfl, ?_⟩
        refine ite2 (fun h2 => ?_) (fun h2 => ?_)
        · rw [decide_eq_true_iff] at h1 h2
          have hb : decide (1 ≤ x.length ∧ x.length ≤ 4) = true := decide_eq_true (by omega)
          obtain ⟨c, r, hc⟩ : ∃ c r, x.cps.toList = c :: r := by
            cases e : x.cps.toList with
            | nil =>
              have := len_toList x
              rw [e] at this
              simp at this
              omega
            | cons c r => exact ⟨c, r, rfl⟩
          refine ⟨_, rfl, x, 0, c, rfl, rfl, by rw [sizeLine_eq]; omega, ?_, c, bigs, rfl, rfl, _, rfl, ?_⟩
          · rw [hc]
            exact atI_nat (j := 0) rfl
          refine ite2 (fun h3 => ?_) (fun h3 => ?_)
          · refine ⟨_, rfl, _, rfl, x, rfl, by rw [sizeLine_eq]; omega, ?_⟩
            rw [cutS_1, hc]
            refine ⟨_, rfl, ?_, fun H' sm => hq _ H' ?_ sm⟩
            · show (((c :: r).drop 1).toArray).size ≤ 100000
              have := len_toList x
              rw [hc] at this
              simp at this ⊢
              omega
            · unfold gapB
              rw [hb, hc]
              show _ = (true && (decide (c ∈ bigs.cps.toList) && _))
              rw [h3, Bool.true_and, Bool.true_and]
          · refine hq _ H ?_ (Same.refl H)
            unfold gapB
            rw [hb, hc]
            show _ = (true && (decide (c ∈ bigs.cps.toList) && _))
            rw [Bool.true_and]
            have h3' : decide (c ∈ bigs.cps.toList) = false := by simpa using h3
            rw [h3']
            rfl
        · refine hq _ H ?_ (Same.refl H)
          unfold gapB
          rw [decide_eq_true_iff] at h1 h2
          rw [show decide (1 ≤ x.length ∧ x.length ≤ 4) = false from decide_eq_false (by omega), Bool.false_and]
      · refine ⟨_, rfl, hq _ H ?_ (Same.refl H)⟩
        unfold gapB
        rw [decide_eq_true_iff] at h1
        rw [show decide (1 ≤ x.length ∧ x.length ≤ 4) = false from decide_eq_false (by omega), Bool.false_and]
    | _ => exact k H (Same.refl H)
theorem scHasParts : FnScope ["signs", "name", "count"] ["signs", "name", "count"] (defScope sHasParts) := ⟨rfl, rfl, rfl, by decide +kernel, rfl, by decide +kernel, by decide +kernel⟩
def spHP (K : PySem.W.Frag) (C : Addr) : Sp := fun vs H Q _ => ∃ (p : Addr) (L : List Ln) (v : V) (g : G) (n : Nat), vs = [.ref p, v, .int n] ∧ SgL K C H p L ∧ LOk L ∧ In K H v g ∧ ∀ H', Same H H' → Q (.bl (hasParts L g n)) H'
theorem ok_hasParts {f C : Addr} {fd : FuncData} (F : Fun K "has_parts" "has_parts" sHasParts f fd) (MH : Mt P w K mg base C8.CX0 C "has" 1 ["self", "name"] (spHasG K C)) (MK : Mt P w K mg base C8.CX0 C "kind" 2 ["self", "name"] (spKindG K C)) (MM : Mt P w K mg base C8.CX0 C "many" 2 ["self", "name"] (spManyG K C))
    (T : Ct mg) (G : SgC K C) : FnOk P w K mg base C8.CX0 3 f fd ["signs", "name", "count"] (spHP K C) := by
  obtain ⟨fh, fdh, FH, mH, bH⟩ := MH.ex
  obtain ⟨fk, fdk, FK, mK, bK⟩ := MK.ex
  obtain ⟨fm, fdm, FM, mM, bM⟩ := MM.ex
  refine F.ok scHasParts (fun vs H Q E h => ?_) (fun cdv A outer s H vs Q E hr h => ?_)
  · obtain ⟨p, L, v, g, n, rfl, _⟩ := h
    rfl
  · obtain ⟨p, L, v, g, n, rfl, S, ok, hin, k⟩ := h
    obtain ⟨_, hmp⟩ := T.mparts
    refine ⟨_, pss_cons (ps_if (pt_not (pt_val (pe_meth (pv 0) G.cl mH FH (hr.mono (by decide)) bH .nil pass0 (pa_cons (pv 1) pa_nil)))) (pss_one (ps_ret pe_bl)) pss_nil)
      (pss_cons (ps_if (pt_cmpR (op_inT (units65 hr)) (pe_meth (pv 0) G.cl mK FK (hr.mono (by decide)) bK .nil pass0 (pa_cons (pv 1) pa_nil)) (pe_tup (pa_cons pe_str (pa_cons pe_str pa_nil))) (by rfl))
        (pss_one (ps_ret (pe_chain op_le op_le pe_int (pv 2) (pe_glob (v := .int 8) (by rfl) hmp ⟨_, rfl⟩)))) pss_nil)
      (pss_one (ps_ret (pe_cmpR op_eq (pv 2) (pe_meth (pv 0) G.cl mM FM (hr.mono (by decide)) bM .nil pass0 (pa_cons (pv 1) pa_nil)) (nomark _))))), ?_⟩
    obtain ⟨rt, td, xs, ⟨⟨dx, hp⟩, _⟩, _⟩ := id S
    have hq : ∀ (b : Bool) (H' : Hp), b = hasParts L g n → Same H H' → Q (.bl b) H' := fun b H' e sm => by
      rw [e]
      exact k H' sm
    have nof : ∀ m : Str, ¬ m = "_table" → ¬ m = "_rows" → (sgF rt td).lookup m = none := fun m h1 h2 => sgF_no rt td h1 h2
    refine ⟨_, rfl, p, dx, _, rfl, hp, nof _ (by decide +kernel) (by decide +kernel), _, rfl, p, L, v, g, rfl, S, hin, _, rfl, ?_⟩
    cases g with
    | s x =>
      obtain rfl := hin.str
      cases hf : find L x with
      | none =>
        have h1 : hasG (L.map (·.1)) (.s x) = false := decide_eq_false (find_none.mp hf)
        rw [h1]
        refine iteT (hq _ _ ?_ (Same.refl H))
        simp [hasParts, hf]
      | some l =>
        obtain ⟨m1, m2⟩ := find_mem hf
        have h1 : hasG (L.map (·.1)) (.s x) = true := decide_eq_true (List.mem_map.mpr ⟨l, m1, m2⟩)
        rw [h1]
        refine iteF ?_
        obtain ⟨sk, _, _, _⟩ := kinds_ok _ (ok.kd l m1)
        refine ⟨_, rfl, p, dx, _, rfl, hp, nof _ (by decide +kernel) (by decide +kernel), _, rfl, p, L, x, l, rfl, S, hf, (by show 2 ≤ sizeLine; decide), fun q hq0 => ⟨.str l.2.1, [.str "row", .str "heap"], .str _, .tup (SqT.of upd_same) (.cons (.str _) (.cons (.str _) .nil)), sk, by decide +kernel, _, rfl, ?_⟩⟩
        have s1 := Same.new (o := .tup [.str "row", .str "heap"]) (Same.refl H) hq0
        have e0 : hasParts L (.s x) n = if rowish l.2.1 then decide (2 ≤ n ∧ n ≤ 8) else decide (n = l.2.2) := by
          simp only [hasParts, hf]
        refine ite2 (fun h2 => ?_) (fun h2 => ?_)
        · have h2' : rowish l.2.1 = true := h2
          rw [h2', if_pos rfl] at e0
          refine ⟨_, rfl, _, _, rfl, rfl, _, rfl, ?_⟩
          refine ite2 (fun h3 => ?_) (fun h3 => ?_)
          · refine ⟨_, _, rfl, rfl, hq _ _ ?_ s1⟩
            rw [e0]
            rw [decide_eq_true_iff] at h3
            by_cases h4 : n ≤ 8
            · rw [decide_eq_true (show (n : Int) ≤ 8 by omega), decide_eq_true (by omega)]
            · rw [decide_eq_false (show ¬ (n : Int) ≤ 8 by omega), decide_eq_false (by omega)]
          · refine hq _ _ ?_ s1
            rw [e0]
            rw [decide_eq_true_iff] at h3
            rw [decide_eq_false (by omega)]
        · have h2' : rowish l.2.1 = false := by
            have h0 : ¬ rowish l.2.1 = true := h2
            simpa using h0
          rw [h2', if_neg Bool.false_ne_true] at e0
          refine ⟨_, rfl, _, rfl, p, dx, _, rfl, s1 _ _ hp, nof _ (by decide +kernel) (by decide +kernel), _, rfl, p, L, x, l, rfl, S.same s1, hf, rfl, hq _ _ ?_ s1⟩
          rw [e0]
          by_cases h4 : n = l.2.2
          · rw [decide_eq_true h4, h4]
            exact decide_eq_true rfl
          · rw [decide_eq_false h4, decide_eq_false (fun z => h4 (by have := V.int.inj z; omega))]
    | _ => exact hq _ _ rfl (Same.refl H)
end
end K1
set_option Elab.async false
set_option linter.all false
set_option maxRecDepth 100000
set_option maxHeartbeats 1000000
namespace K1
open PySem PySem.Spec PyProof.Rows L2
open PySem.W (EachIs)
/-- built of these signs, by their numbers of parts -/
def stands (L : List Ln) : G → Bool
  | .s x => gapB x
  | .t (h :: ps) => hasParts L h ps.length && (ps.map (stands L)).all id
  | _ => false
theorem stands_t (L : List Ln) (h : G) (ps : List G) : stands L (.t (h :: ps)) = (hasParts L h ps.length && ps.all (stands L)) := by
  rw [stands, List.all_map]
  rfl
/-- what draft_points tells -/
def drp (L : List Ln) (g : G) (l r : Nat) : Nat := if stands L g = true ∧ points g ≤ r ∧ deep g ≤ l then points g else 0
theorem drp_zero {L : List Ln} {g : G} {l r : Nat} (h : ¬ (stands L g = true ∧ points g ≤ r ∧ deep g ≤ l)) : drp L g l r = 0 := if_neg h
theorem drp_no0 {L : List Ln} {g : G} {l r : Nat} (h : drp L g l r ≠ 0) : stands L g = true ∧ points g ≤ r ∧ deep g ≤ l := by
  by_cases q : stands L g = true ∧ points g ≤ r ∧ deep g ≤ l
  · exact q
  · exact absurd (drp_zero q) h
theorem drp_is {L : List Ln} {g : G} {l r : Nat} (h : stands L g = true ∧ points g ≤ r ∧ deep g ≤ l) : drp L g l r = points g := if_pos h
theorem sum_take {ns : List Nat} {i : Nat} {n : Nat} (h : ns[i]? = some n) : (ns.take i).sum + n ≤ ns.sum := by
  have e := take_snoc h
  have h2 : ns = ns.take (i + 1) ++ ns.drop (i + 1) := (List.take_append_drop _ _).symm
  have h3 : ns.sum = (ns.take (i + 1)).sum + (ns.drop (i + 1)).sum := by
    conv => lhs; rw [h2]
    rw [List.sum_append]
  rw [h3, e, List.sum_append]
  simp
abbrev sDp : Stmt := topS 30
abbrev nDp : List Str := ["signs", "thing", "levels", "room", "taken", "part", "more"]
def spDr (K : PySem.W.Frag) (C : Addr) (n : Nat) : Sp := fun vs H Q _ => ∃ (p : Addr) (L : List Ln) (v : V) (g : G) (l r : Nat), vs = [.ref p, v, .int l, .int r] ∧ SgL K C H p L ∧ LOk L ∧ In K H v g ∧ fine g = true ∧ sz g ≤ 2000 ∧ l ≤ n ∧ ∀ H', Same H H' → Q (.int (drp L g l r)) H'
section
variable {P : Program} {w : World} {K : PySem.W.Frag} {mg : Str → Option Value} {base : Heap}
theorem scDp : FnScope nDp ["signs", "thing", "levels", "room"] (defScope sDp) := ⟨rfl, rfl, rfl, by decide +kernel, rfl, by decide +kernel, by decide +kernel⟩
/-- one level: what is called, if anything, is called at the level below -/
theorem ok_dp {f C : Addr} {fd : FuncData} {n m : Nat} {spI : Sp} (F : Fun K "draft_points" "draft_points" sDp f fd) (IH : Df P w K mg base C8.CX0 "draft_points" m ["signs", "thing", "levels", "room"] spI)
    (hI : ∀ l, l + 1 ≤ n → ∀ vs H Q E, (∃ (p : Addr) (L : List Ln) (v : V) (g : G) (r : Nat), vs = [.ref p, v, .int l, .int r] ∧ SgL K C H p L ∧ LOk L ∧ In K H v g ∧ fine g = true ∧ sz g ≤ 2000 ∧ ∀ H', Same H H' → Q (.int (drp L g l r)) H') → spI vs H Q E)
    (DG : Df P w K mg base C8.CX0 "is_gap" 2 ["thing"] (spGap K)) (DH : Df P w K mg base C8.CX0 "has_parts" 3 ["signs", "name", "count"] (spHP K C)) (T : Ct mg) (hm : 3 ≤ m) :
    FnOk P w K mg base C8.CX0 (m + 1) f fd ["signs", "thing", "levels", "room"] (spDr K C n) := by
  refine F.ok scDp (fun vs H Q E h => ?_) (fun cdv A outer s H vs Q E hr h => ?_)
  · obtain ⟨p, L, v, g, l, r, rfl, _⟩ := h
    rfl
  · obtain ⟨p, L, v, g, l, r, rfl, S, ok, hin, hf, hz, hl, k⟩ := h
    have hr3 : Room 3 _ := hr.mono hm
    refine ⟨_, pss_cons (ps_if (PW.pt (pw_or (pt_cmpR op_eq (pv 2) pe_int (nomark _)) (pw_or1 (pt_cmpR op_eq (pv 3) pe_int (nomark _))))) (pss_one (ps_ret pe_int)) pss_nil)
      (pss_cons (ps_if (pt_val (pe_callB call_isi (by rfl) T.isi boot_isinstance (pa_cons (pv 1) (pa_cons (pe_bltn (v := .ty "str") (by rfl) T.str boot_str rfl) pa_nil)))) (pss_one (ps_ret (pe_ifExp (pt_val (pe_df DG hr3 pass0 (pa_cons (pv 1) pa_nil))) pe_int pe_int))) pss_nil)
      (pss_cons (ps_if (PW.pt (pw_or (pt_not (pt_val (pe_callB call_isi (by rfl) T.isi boot_isinstance (pa_cons (pv 1) (pa_cons (pe_bltn (v := .ty "tuple") (by rfl) T.tuple boot_tuple rfl) pa_nil))))) (pw_or (pt_cmpR op_eq (pe_callB call_len (by rfl) T.len PySem.boot_len (pa_cons (pv 1) pa_nil)) pe_int (nomark _))
          (pw_or1 (pt_not (pt_val (pe_df DH hr3 pass0 (pa_cons (pv 0) (pa_cons (pe_ix ix_tup (pv 1) pe_int (fun _ _ => rfl)) (pa_cons (pe_op op_sub (pe_callB call_len (by rfl) T.len PySem.boot_len (pa_cons (pv 1) pa_nil)) pe_int) pa_nil))))))))))
        (pss_one (ps_ret pe_int)) pss_nil)
      (pss_cons (ps_set (i := 4) scDp.nd rfl (Or.inl rfl) pe_int)
      (pss_cons (ps_for PassesOwn.never rfl (pi_tup (pe_slice sl_tup (pv 1) (po_some pe_int) po_none)) (pg_name (i := 5) scDp.nd rfl (Or.inl rfl))
        (pss_cons (ps_set (i := 6) scDp.nd rfl (Or.inl rfl) (pe_df IH hr pass0 (pa_cons (pv 0) (pa_cons (pv 5) (pa_cons (pe_op op_sub (pv 2) pe_int) (pa_cons (pe_op op_sub (pv 3) (pv 4)) pa_nil)))) (Nat.le_refl _)))
        (pss_cons (ps_if (pt_cmpR op_eq (pv 6) pe_int (nomark _)) (pss_one (ps_ret pe_int)) pss_nil)
        (pss_one (ps_aug (i := 4) scDp.nd rfl (.inl rfl) (pv 6) ip_add)))))
      (pss_one (ps_ret (pv 4))))))), ?_⟩
    have hq : ∀ (b : Nat) (H' : Hp), b = drp L g l r → Same H H' → Q (.int b) H' := fun b H' e sm => by
      rw [e]
      exact k H' sm
    have hq0 : ∀ (H' : Hp), drp L g l r = 0 → Same H H' → Q (.int 0) H' := fun H' e sm => hq 0 H' e.symm sm
    have p1 := points_pos g
    have d1 := deep_pos g
    refine ⟨_, rfl, rfl, _, rfl, ?_⟩
    refine ite2 (fun h1 => ?_) (fun h1 => ?_)
    · have h1' : (l : Int) = 0 := V.int.inj (of_decide_eq_true h1)
      exact hq0 H (drp_zero fun z => by omega) (Same.refl H)
    have hl0 : l ≠ 0 := fun z => h1 (by rw [z]; rfl)
    refine ⟨_, rfl, rfl, _, rfl, ?_⟩
    refine ite2 (fun h2 => ?_) (fun h2 => ?_)
    · have h2' : (r : Int) = 0 := V.int.inj (of_decide_eq_true h2)
      exact hq0 H (drp_zero fun z => by omega) (Same.refl H)
    have hr0 : r ≠ 0 := fun z => h2 (by rw [z]; rfl)
    obtain ⟨d, t1, t2⟩ := isi_str hin
    refine ⟨_, rfl, _, _, _, _, _, rfl, .ty "str", t1, t2, _, rfl, ?_⟩
    have noT : isT g = false → isS g = false → drp L g l r = 0 := fun a b => drp_zero fun z => by
      cases g with
      | o => simp [stands] at z
      | l => simp [stands] at z
      | s x => cases b
      | t ps => cases a
    cases hS : isS g with
    | true =>
      obtain ⟨x, rfl⟩ : ∃ x, g = .s x := by cases g <;> first | exact ⟨_, rfl⟩ | cases hS
      refine iteT ?_
      refine ⟨_, rfl, v, .s x, rfl, hin, hf, fun H1 s1 => ⟨_, rfl, ?_⟩⟩
      have es : stands L (.s x) = gapB x := by rw [stands]
      have ep : points (.s x) = 1 := by simp [points]
      have ed : deep (.s x) = 1 := by simp [deep]
      refine ite2 (fun h3 => hq 1 H1 ?_ s1) (fun h3 => hq 0 H1 ?_ s1)
      · rw [drp_is ⟨by rw [es]; exact h3, by omega, by omega⟩, ep]
      · exact (drp_zero fun z => h3 (by show gapB x = true; rw [← es]; exact z.1)).symm
    | false =>
      refine iteF ?_
      obtain ⟨d', t1', t2'⟩ := isi_tup hin
      refine ⟨_, rfl, _, _, _, _, _, rfl, .ty "tuple", t1', t2', _, rfl, ?_⟩
      cases hT : isT g with
      | false => exact iteT (hq0 H (noT hT hS) (Same.refl H))
      | true =>
        obtain ⟨gs, rfl⟩ : ∃ gs, g = .t gs := by cases g <;> first | exact ⟨_, rfl⟩ | cases hT
        refine iteF ?_
        obtain ⟨a, xs, rfl, hx, hg⟩ := hin.tup
        have hlen := hg.len
        have hsl := sz_len gs
        refine ⟨_, rfl, .ref a, xs.length, rfl, .inr ⟨xs, hx, rfl⟩, rfl, _, rfl, ?_⟩
        cases gs with
        | nil =>
          refine iteT_ (vint_eq (by rw [hlen]; rfl)) (hq0 H (drp_zero fun z => ?_) (Same.refl H))
          simp [stands] at z
        | cons h ps =>
          refine iteF_ (vint_ne (by rw [hlen]; simp only [List.length_cons]; omega)) ?_
          obtain ⟨v0, e0, h0⟩ := hg.get (i := 0) rfl
          have en : ((xs.length : Nat) : Int) - 1 = ((ps.length : Nat) : Int) := by
            rw [hlen]
            simp
          refine ⟨_, rfl, _, rfl, a, xs, 0, v0, rfl, rfl, hx, atI_nat (j := 0) e0, _, rfl, .ref a, xs.length, rfl, .inr ⟨xs, hx, rfl⟩, _, _, rfl, rfl, p, L, v0, h, ps.length, (by show [V.ref p, v0, V.int ((xs.length : Int) - 1)] = _; rw [en]), S, ok, h0, fun H1 s1 => ⟨_, rfl, ?_⟩⟩
          have est := stands_t L h ps
          refine ite2 (fun h4 => hq0 H1 (drp_zero fun z => ?_) s1) (fun h4 => ?_)
          · rw [est] at z
            have h4' : hasParts L h ps.length = false := by simpa using h4
            rw [h4'] at z
            cases z.1
          have h4' : hasParts L h ps.length = true := by
            have q0 : ¬ (!hasParts L h ps.length) = true := h4
            simpa using q0
          rw [h4', Bool.true_and] at est
          have hx1 := sqt_same s1 hx
          refine ⟨_, rfl, _, rfl, a, xs, rfl, hx1, whole_1 (ne_nil hg), fun q hq2 => ⟨q, rfl, ⟨_, SqT.of upd_same⟩, ?_⟩⟩
          have sq := Same.new (o := .tup (cutV xs (some 1) none)) s1 hq2
          have hgd : InL K (upd H1 q (.tup (cutV xs (some 1) none))) (cutV xs (some 1) none) ps := by
            have z := (hg.drop 1).same sq
            rw [← cut_1] at z
            exact z
          have ept := points_t h ps
          have edt := deep_t h ps
          refine for_tup (K := K) (a := q) (xs := cutV xs (some 1) none) (fun i σ H' => ∃ (tk : Nat) (v5 v6 : Option V), σ = [some (.ref p), some (.ref a), some (.int l), some (.int r), some (.int tk), v5, v6] ∧ Same (upd H1 q (.tup (cutV xs (some 1) none))) H' ∧ tk = 1 + ((ps.take i).map points).sum ∧ tk ≤ r ∧ (∀ g ∈ ps.take i, stands L g = true ∧ deep g ≤ l - 1))
            ⟨1, none, none, rfl, Same.refl _, by simp, by omega, fun g hg => by simp at hg⟩ (fun i σ H' _ ⟨_, _, _, _, sm, _⟩ => sqt_same sm (SqT.of upd_same)) ?_ ?_
          · rintro i x σ H' hi ⟨tk, v5, v6, rfl, sm, etk, htk, hall⟩
            obtain ⟨g, hgi, hgin⟩ := hgd.at hi
            have hgm := List.mem_of_getElem? hgi
            have hgm' : g ∈ h :: ps := List.mem_cons_of_mem _ hgm
            have hst := sum_take (ns := ps.map points) (i := i) (n := points g) (by rw [List.getElem?_map, hgi]; rfl)
            rw [← List.map_take] at hst
            have l1 : ((l : Int) - 1) = ((l - 1 : Nat) : Int) := by omega
            have r1 : ((r : Int) - tk) = ((r - tk : Nat) : Int) := by omega
            refine ⟨_, rfl, _, rfl, _, rfl, _, _, rfl, rfl, _, rfl, _, rfl, _, _, rfl, rfl, ?_⟩
            refine hI (l - 1) (by omega) _ _ _ _ ⟨p, L, x, g, r - tk, (by show [V.ref p, x, V.int ((l : Int) - 1), V.int ((r : Int) - tk)] = _; rw [l1, r1]), S.same (sq.trans sm), ok, hgin.same sm, fine_mem hf hgm', by have := sz_mem hgm'; omega, fun H2 s2 => ⟨_, rfl, rfl, _, rfl, ?_⟩⟩
            have sAll := (sq.trans sm).trans s2
            refine ite2 (fun h5 => hq0 H2 (drp_zero fun z => ?_) sAll) (fun h5 => ?_)
            · have h5' : drp L g (l - 1) (r - tk) = 0 := by
                have z := V.int.inj (of_decide_eq_true h5)
                omega
              obtain ⟨z1, z2, z3⟩ := z
              rw [est, List.all_eq_true] at z1
              have d2 := le_maxl (List.mem_map.mpr ⟨g, hgm, rfl⟩ : deep g ∈ ps.map deep)
              rw [drp_is ⟨z1 g hgm, by omega, by omega⟩] at h5'
              have := points_pos g
              omega
            · have h5' : drp L g (l - 1) (r - tk) ≠ 0 := fun z => h5 (by rw [z]; rfl)
              have z := drp_no0 h5'
              rw [drp_is z]
              refine ⟨_, rfl, _, rfl, _, _, rfl, rfl, tk + points g, _, _, rfl, sm.trans s2, ?_, by omega, ?_⟩
              · rw [take_snoc hgi, List.map_append, List.sum_append, etk]
                simp
                omega
              · intro g' hg'
                rw [take_snoc hgi] at hg'
                rcases List.mem_append.mp hg' with hg' | hg'
                · exact hall g' hg'
                · rw [List.mem_singleton.mp hg']
                  exact ⟨z.1, z.2.2⟩
          · rintro σ H' ⟨tk, v5, v6, rfl, sm, etk, htk, hall⟩
            rw [hgd.len, List.take_length] at etk hall
            refine ⟨_, rfl, hq tk H' ?_ (sq.trans sm)⟩
            rw [drp_is ⟨?_, by omega, ?_⟩, ept, etk]
            · rw [est, List.all_eq_true]
              exact fun g hg => (hall g hg).1
            · rw [edt]
              have := maxl_le (ns := ps.map deep) (m := l - 1)
              have h2 := this.mpr fun n hn => by
                obtain ⟨g, hg, rfl⟩ := List.mem_map.mp hn
                exact (hall g hg).2
              omega
end
end K1
set_option Elab.async false
set_option linter.all false
set_option maxRecDepth 100000
set_option maxHeartbeats 1000000
namespace K1
open PySem PySem.Spec PyProof.Rows L2
open PySem.W (EachIs)
/-! ### laying -/
def oneP (h : Str) : G → List G
  | .t (.s x :: rs) => if x = h then rs else [.t (.s x :: rs)]
  | q => [q]
def flat (h : Str) (qs : List G) : List G := qs.flatMap (oneP h)
def sortT (qs : List G) : List G := qs.mergeSort (SrtF.leK text)
def opn (k h : Str) (qs : List G) : List G := if rowish k then flat h qs else qs
def arr (k h : Str) (qs : List G) : List G := if loose k then sortT (opn k h qs) else opn k h qs
def kindOf (L : List Ln) (x : Str) : Str := match find L x with | some l => l.2.1 | none => Str.empty
def laid (L : List Ln) : G → G
  | .t (.s h :: ps) => .t (.s h :: arr (kindOf L h) h (ps.map (laid L)))
  | g => g
theorem laid_s (L : List Ln) (x : Str) : laid L (.s x) = .s x := by simp [laid]
theorem laid_t (L : List Ln) (h : Str) (ps : List G) : laid L (.t (.s h :: ps)) = .t (.s h :: arr (kindOf L h) h (ps.map (laid L))) := by rw [laid]
theorem sortT_perm (qs : List G) : (sortT qs).Perm qs := List.mergeSort_perm _ _
theorem arr_perm (k h : Str) (qs : List G) : (arr k h qs).Perm (opn k h qs) := by
  unfold arr
  split
  · exact sortT_perm _
  · exact List.Perm.refl _
theorem opn_mem {k h : Str} {qs : List G} {q : G} (hq : q ∈ opn k h qs) : q ∈ qs ∨ ∃ rs, .t (.s h :: rs) ∈ qs ∧ q ∈ rs := by
  unfold opn at hq
  split at hq
  · obtain ⟨p, hp, hqp⟩ := List.mem_flatMap.mp hq
    unfold oneP at hqp
    split at hqp
    · rename_i x rs
      by_cases e : x = h
      · rw [if_pos e] at hqp
        subst e
        exact .inr ⟨rs, hp, hqp⟩
      · rw [if_neg e] at hqp
        rw [List.mem_singleton.mp hqp]
        exact .inl hp
    · rw [List.mem_singleton.mp hqp]
      exact .inl hp
  · exact .inl hq
theorem arr_mem {k h : Str} {qs : List G} {q : G} (hq : q ∈ arr k h qs) : q ∈ qs ∨ ∃ rs, .t (.s h :: rs) ∈ qs ∧ q ∈ rs := opn_mem ((arr_perm k h qs).mem_iff.mp hq)
theorem opn_sum (f : G → Nat) (hf : ∀ x rs, (rs.map f).sum ≤ f (.t (.s x :: rs))) (k h : Str) (qs : List G) : ((opn k h qs).map f).sum ≤ (qs.map f).sum := by
  unfold opn
  split
  · unfold flat
    induction qs with
    | nil => exact Nat.le_refl _
    | cons q r ih =>
      rw [List.flatMap_cons, List.map_append, List.sum_append, List.map_cons, List.sum_cons]
      have h1 : ((oneP h q).map f).sum ≤ f q := by
        unfold oneP
        split
        · rename_i x rs
          split
          · exact hf x rs
          · simp
        · simp
      omega
  · exact Nat.le_refl _
theorem perm_sum {l m : List Nat} (p : l.Perm m) : l.sum = m.sum := by
  induction p with
  | nil => rfl
  | cons a _ ih => rw [List.sum_cons, List.sum_cons, ih]
  | swap a b l => simp only [List.sum_cons]; omega
  | trans _ _ h1 h2 => rw [h1, h2]
theorem arr_sum (f : G → Nat) (hf : ∀ x rs, (rs.map f).sum ≤ f (.t (.s x :: rs))) (k h : Str) (qs : List G) : ((arr k h qs).map f).sum ≤ (qs.map f).sum := by
  rw [perm_sum ((arr_perm k h qs).map f)]
  exact opn_sum f hf k h qs
theorem arr_max (f : G → Nat) (hf : ∀ x rs, ∀ r ∈ rs, f r ≤ f (.t (.s x :: rs))) (k h : Str) (qs : List G) : maxl ((arr k h qs).map f) ≤ maxl (qs.map f) := by
  refine maxl_le.mpr fun n hn => ?_
  obtain ⟨q, hq, rfl⟩ := List.mem_map.mp hn
  rcases arr_mem hq with h1 | ⟨rs, h1, h2⟩
  · exact le_maxl (List.mem_map.mpr ⟨q, h1, rfl⟩)
  · exact Nat.le_trans (hf h rs q h2) (le_maxl (List.mem_map.mpr ⟨_, h1, rfl⟩))
theorem maxl_map_le {f g : G → Nat} {l : List G} (h : ∀ a ∈ l, f a ≤ g a) : maxl (l.map f) ≤ maxl (l.map g) := maxl_le.mpr fun n hn => by
  obtain ⟨q, hq, rfl⟩ := List.mem_map.mp hn
  exact Nat.le_trans (h q hq) (le_maxl (List.mem_map.mpr ⟨q, hq, rfl⟩))
structure Less (g h : G) : Prop where
  shp : shp g = true
  fine : fine g = true
  dp : dp g ≤ dp h
  sz : sz g ≤ sz h
  pts : points g ≤ points h
  deep : deep g ≤ deep h
theorem shp_mk {x : Str} {ps : List G} (h : ∀ p ∈ ps, shp p = true) : shp (.t (.s x :: ps)) = true := by
  rw [shp_t, List.all_eq_true]
  exact h
theorem fine_mk {ps : List G} (h : ∀ p ∈ ps, fine p = true) : fine (.t ps) = true := by
  rw [fine_t, List.all_eq_true]
  exact h
theorem dp_s (x : Str) : dp (.s x) = 1 := by simp [dp]
theorem sz_s (x : Str) : sz (.s x) = 1 := by simp [sz]
theorem dp_ts (x : Str) (ps : List G) : dp (.t (.s x :: ps)) = 1 + max 1 (maxl (ps.map dp)) := by
  rw [dp_t, List.map_cons, dp_s]
  rfl
theorem sz_ts (x : Str) (ps : List G) : sz (.t (.s x :: ps)) = 2 + (ps.map sz).sum := by
  rw [sz_t, List.map_cons, sz_s, List.sum_cons]
  omega
/-- arranging parts makes nothing greater -/
theorem arr_less {k h : Str} {ps qs : List G} (hf : fine (.s h) = true) (hq : ∀ q ∈ qs, shp q = true ∧ fine q = true) (hd : maxl (qs.map dp) ≤ maxl (ps.map dp)) (hs : (qs.map sz).sum ≤ (ps.map sz).sum) (hp : (qs.map points).sum ≤ (ps.map points).sum) (hde : maxl (qs.map deep) ≤ maxl (ps.map deep)) :
    Less (.t (.s h :: arr k h qs)) (.t (.s h :: ps)) := by
  have key : ∀ q ∈ arr k h qs, shp q = true ∧ fine q = true := fun q hm => by
    rcases arr_mem hm with h1 | ⟨rs, h1, h2⟩
    · exact hq q h1
    · obtain ⟨a, b⟩ := hq _ h1
      rw [shp_t, List.all_eq_true] at a
      exact ⟨a q h2, fine_mem b (List.mem_cons_of_mem _ h2)⟩
  refine ⟨shp_mk fun p hp => (key p hp).1, fine_mk fun p hp => ?_, ?_, ?_, ?_, ?_⟩
  · rcases List.mem_cons.mp hp with rfl | hp
    · exact hf
    · exact (key p hp).2
  · rw [dp_ts, dp_ts]
    have := arr_max dp (fun x rs r hr => by
      rw [dp_ts]
      have := le_maxl (List.mem_map.mpr ⟨r, hr, rfl⟩ : dp r ∈ rs.map dp)
      omega) k h qs
    omega
  · rw [sz_ts, sz_ts]
    have := arr_sum sz (fun x rs => by rw [sz_ts]; omega) k h qs
    omega
  · rw [points_t, points_t]
    have := arr_sum points (fun x rs => by rw [points_t]; omega) k h qs
    omega
  · rw [deep_t, deep_t]
    have := arr_max deep (fun x rs r hr => by
      rw [deep_t]
      have := le_maxl (List.mem_map.mpr ⟨r, hr, rfl⟩ : deep r ∈ rs.map deep)
      omega) k h qs
    omega
theorem laid_less {L : List Ln} (n : Nat) : ∀ g, dp g ≤ n → shp g = true → fine g = true → Less (laid L g) g := by
  induction n with
  | zero =>
    intro g h
    have := dp_pos g
    omega
  | succ n ih =>
    intro g hd hs hf
    rcases shp_cases hs with ⟨x, rfl⟩ | ⟨x, ps, rfl, hp⟩
    · rw [laid_s]
      exact ⟨hs, hf, Nat.le_refl _, Nat.le_refl _, Nat.le_refl _, Nat.le_refl _⟩
    · rw [laid_t]
      have key : ∀ p ∈ ps, Less (laid L p) p := fun p hm => ih p (dp_mem hd (List.mem_cons_of_mem _ hm)) (hp p hm) (fine_mem hf (List.mem_cons_of_mem _ hm))
      refine arr_less (fine_mem hf List.mem_cons_self) (fun q hq => ?_) ?_ ?_ ?_ ?_
      · obtain ⟨p, hm, rfl⟩ := List.mem_map.mp hq
        exact ⟨(key p hm).shp, (key p hm).fine⟩
      · rw [List.map_map]
        exact maxl_map_le fun p hm => (key p hm).dp
      · rw [List.map_map]
        exact sum_map_le fun p hm => (key p hm).sz
      · rw [List.map_map]
        exact sum_map_le fun p hm => (key p hm).pts
      · rw [List.map_map]
        exact maxl_map_le fun p hm => (key p hm).deep
theorem stands_shp {L : List Ln} (n : Nat) : ∀ g, dp g ≤ n → stands L g = true → shp g = true ∧ dp g ≤ deep g + 1 := by
  induction n with
  | zero =>
    intro g h
    have := dp_pos g
    omega
  | succ n ih =>
    intro g hd hs
    cases g with
    | s x => exact ⟨by simp [shp], by rw [dp_s]; have := deep_pos (.s x); omega⟩
    | o => simp [stands] at hs
    | l => simp [stands] at hs
    | t gs =>
      cases gs with
      | nil => simp [stands] at hs
      | cons h ps =>
        rw [stands_t, Bool.and_eq_true, List.all_eq_true] at hs
        cases h with
        | s x =>
          have key : ∀ p ∈ ps, shp p = true ∧ dp p ≤ deep p + 1 := fun p hm => ih p (dp_mem hd (List.mem_cons_of_mem _ hm)) (hs.2 p hm)
          refine ⟨shp_mk fun p hm => (key p hm).1, ?_⟩
          rw [dp_ts, deep_t]
          have : maxl (ps.map dp) ≤ maxl (ps.map deep) + 1 := maxl_le.mpr fun m hm => by
            obtain ⟨p, hp, rfl⟩ := List.mem_map.mp hm
            have h1 := (key p hp).2
            have h2 := le_maxl (List.mem_map.mpr ⟨p, hp, rfl⟩ : deep p ∈ ps.map deep)
            omega
          omega
        | _ => simp [hasParts] at hs
theorem stands_head {L : List Ln} {h : G} {ps : List G} (hs : stands L (.t (h :: ps)) = true) : ∃ x l, h = .s x ∧ find L x = some l ∧ ∀ p ∈ ps, stands L p = true := by
  rw [stands_t, Bool.and_eq_true, List.all_eq_true] at hs
  cases h with
  | s x =>
    cases hf : find L x with
    | none => simp [hasParts, hf] at hs
    | some l => exact ⟨x, l, rfl, hf, hs.2⟩
  | _ => simp [hasParts] at hs
/-- a thing as data, small enough to be compared -/
theorem toD_ok (n : Nat) : ∀ g, dp g ≤ n → shp g = true → fine g = true → PyData.canLay0 (toD g) = true ∧ PyData.depth (toD g) ≤ n := by
  induction n with
  | zero =>
    intro g h
    have := dp_pos g
    omega
  | succ n ih =>
    intro g hd hs hf
    rcases shp_cases hs with ⟨x, rfl⟩ | ⟨x, ps, rfl, hp⟩
    · rw [toD]
      rw [fine, Bool.and_eq_true] at hf
      refine ⟨by simpa [PyData.canLay0] using hf.2, ?_⟩
      simp [PyData.depth]
    · rw [toD]
      have key : ∀ q ∈ (.s x :: ps : List G), PyData.canLay0 (toD q) = true ∧ PyData.depth (toD q) ≤ n := fun q hq => by
        have hd' := dp_mem hd hq
        rcases List.mem_cons.mp hq with rfl | hq'
        · exact ih _ hd' (by simp [shp]) (fine_mem hf List.mem_cons_self)
        · exact ih q hd' (hp q hq') (fine_mem hf hq)
      generalize (G.s x :: ps) = gs at key
      have k2 : PyData.canLayAll0 (gs.map toD) = true ∧ PyData.depthAll (gs.map toD) ≤ n := by
        clear hd hs hf hp
        induction gs with
        | nil => simp [PyData.canLayAll0, PyData.depthAll]
        | cons g r ih2 =>
          obtain ⟨a, b⟩ := key g List.mem_cons_self
          obtain ⟨c, d⟩ := ih2 fun q hq => key q (List.mem_cons_of_mem _ hq)
          rw [List.map_cons]
          refine ⟨?_, ?_⟩
          · simp only [PyData.canLayAll0, Bool.and_eq_true]
            exact ⟨a, c⟩
          · simp only [PyData.depthAll]
            exact Nat.max_le.mpr ⟨b, d⟩
      refine ⟨by simpa [PyData.canLay0] using k2.1, ?_⟩
      simp only [PyData.depth]
      omega
theorem toD_shaped {g : G} (hd : dp g ≤ 60) (hs : shp g = true) (hf : fine g = true) : SeqAt.shaped (toD g) = true := by
  obtain ⟨a, b⟩ := toD_ok 60 g hd hs hf
  unfold SeqAt.shaped
  rw [a, Bool.true_and, decide_eq_true_iff]
  omega
/-- sorting pairs of things and their values -/
theorem sort_pairs {K : PySem.W.Frag} {H : Hp} {ps : List (V × G)} (h : ∀ p ∈ ps, In K H p.1 p.2) : InL K H ((ps.mergeSort (SrtF.leK fun p => text p.2)).map Prod.fst) (sortT (ps.map Prod.snd)) := by
  have e : sortT (ps.map Prod.snd) = (ps.mergeSort (SrtF.leK fun p => text p.2)).map Prod.snd := by
    unfold sortT
    exact (List.map_mergeSort (r := SrtF.leK fun p : V × G => text p.2) (s := SrtF.leK text) (f := Prod.snd) (l := ps) fun a _ b _ => rfl).symm
  rw [e]
  have h2 : ∀ p ∈ ps.mergeSort (SrtF.leK fun p => text p.2), In K H p.1 p.2 := fun p hp => h p ((List.mergeSort_perm _ _).mem_iff.mp hp)
  generalize ps.mergeSort (SrtF.leK fun p => text p.2) = l at h2
  induction l with
  | nil => exact .nil
  | cons p r ih => exact .cons (h2 p List.mem_cons_self) (ih fun q hq => h2 q (List.mem_cons_of_mem _ hq))
theorem zip_in {K : PySem.W.Frag} {H : Hp} : ∀ {xs : List V} {gs : List G}, InL K H xs gs → ((xs.zip gs).map Prod.fst = xs ∧ (xs.zip gs).map Prod.snd = gs) ∧ ∀ p ∈ xs.zip gs, In K H p.1 p.2 ∧ p.2 ∈ gs
  | _, _, .nil => ⟨⟨rfl, rfl⟩, fun p hp => by simp at hp⟩
  | _, _, .cons h t => by
    obtain ⟨⟨e1, e2⟩, e3⟩ := zip_in t
    refine ⟨⟨by rw [List.zip_cons_cons, List.map_cons, e1], by rw [List.zip_cons_cons, List.map_cons, e2]⟩, fun p hp => ?_⟩
    rw [List.zip_cons_cons] at hp
    rcases List.mem_cons.mp hp with rfl | hp
    · exact ⟨h, List.mem_cons_self⟩
    · exact ⟨(e3 p hp).1, List.mem_cons_of_mem _ (e3 p hp).2⟩
end K1
set_option Elab.async false
set_option linter.all false
set_option maxRecDepth 100000
set_option maxHeartbeats 1000000
namespace K1
open PySem PySem.Spec PyProof.Rows L2
open PySem.W (EachIs)
abbrev sMade : Stmt := topS 31
abbrev sOpened : Stmt := topS 32
abbrev sAnew : Stmt := topS 33
abbrev sOrNone : Stmt := topS 34


/-- parts that may be put together -/
structure Parts (gs : List G) (n : Nat) : Prop where
  shp : ∀ g ∈ gs, shp g = true
  fine : ∀ g ∈ gs, fine g = true
  dp : ∀ g ∈ gs, dp g ≤ n
  sz : (gs.map sz).sum ≤ 2000
theorem Parts.len {gs : List G} {n : Nat} (h : Parts gs n) : gs.length ≤ 2000 := by
  have := len_le_sum (ns := gs.map K1.sz) fun m hm => by
    obtain ⟨g, _, rfl⟩ := List.mem_map.mp hm
    exact sz_pos g
  rw [List.length_map] at this
  exact Nat.le_trans this h.sz
theorem Parts.one {gs : List G} {n : Nat} (h : Parts gs n) {g : G} (hg : g ∈ gs) : K1.sz g ≤ 2000 := Nat.le_trans (le_sum (List.mem_map.mpr ⟨g, hg, rfl⟩)) h.sz
theorem Parts.opn {gs : List G} {n : Nat} (h : Parts gs n) (k x : Str) : Parts (opn k x gs) n := by
  refine ⟨fun g hg => ?_, fun g hg => ?_, fun g hg => ?_, Nat.le_trans (opn_sum K1.sz (fun x rs => by rw [sz_ts]; omega) k x gs) h.sz⟩
  · rcases opn_mem hg with h1 | ⟨rs, h1, h2⟩
    · exact h.shp g h1
    · have := h.shp _ h1
      rw [shp_t, List.all_eq_true] at this
      exact this g h2
  · rcases opn_mem hg with h1 | ⟨rs, h1, h2⟩
    · exact h.fine g h1
    · exact fine_mem (h.fine _ h1) (List.mem_cons_of_mem _ h2)
  · rcases opn_mem hg with h1 | ⟨rs, h1, h2⟩
    · exact h.dp g h1
    · have := h.dp _ h1
      have h3 := dp_mem (ps := G.s x :: rs) (n := K1.dp (G.t (G.s x :: rs)) - 1) (by have := dp_pos (G.t (G.s x :: rs)); omega) (List.mem_cons_of_mem (G.s x) h2)
      omega
theorem flat_snoc (x : Str) (gs : List G) (g : G) : flat x (gs ++ [g]) = flat x gs ++ oneP x g := by
  unfold flat
  rw [List.flatMap_append]
  simp
theorem flat_len {x : Str} {gs : List G} {n : Nat} (h : Parts gs n) : (flat x gs).length ≤ 2000 := by
  have h2 := opn_sum K1.sz (fun x rs => by rw [sz_ts]; omega) (Str.ofString "row") x gs
  have e : opn (Str.ofString "row") x gs = flat x gs := by
    unfold opn
    rw [if_pos (by decide +kernel)]
  rw [e] at h2
  have := len_le_sum (ns := (flat x gs).map K1.sz) fun m hm => by
    obtain ⟨g, _, rfl⟩ := List.mem_map.mp hm
    exact sz_pos g
  rw [List.length_map] at this
  have := h.sz
  omega
theorem Parts.take {gs : List G} {n : Nat} (h : Parts gs n) (i : Nat) : Parts (gs.take i) n := by
  refine ⟨fun g hg => h.shp g (List.mem_of_mem_take hg), fun g hg => h.fine g (List.mem_of_mem_take hg), fun g hg => h.dp g (List.mem_of_mem_take hg), ?_⟩
  have h2 : gs = gs.take i ++ gs.drop i := (List.take_append_drop _ _).symm
  have h3 := h.sz
  rw [h2, List.map_append, List.sum_append] at h3
  omega
def spOpened (K : PySem.W.Frag) : Sp := fun vs H Q _ => ∃ (x : Str) (l : Addr) (xs : List V) (gs : List G), vs = [.str x, .ref l] ∧ SqL K H l xs ∧ InL K H xs gs ∧ Parts gs 2000 ∧
  ∀ H' p ys, Same H H' → H' p = some (.lst ys) → InL K H' ys (flat x gs) → Q (.ref p) H'
section
variable {P : Program} {w : World} {K : PySem.W.Frag} {mg : Str → Option Value} {base : Heap}
theorem scOpened : FnScope ["name", "parts", "flat", "part"] ["name", "parts"] (defScope sOpened) := ⟨rfl, rfl, rfl, by decide +kernel, rfl, by decide +kernel, by decide +kernel⟩
theorem ok_opened {f : Addr} {fd : FuncData} (F : Fun K "opened" "opened" sOpened f fd) (T : Ct mg) : FnOk P w K mg base C8.CX0 1 f fd ["name", "parts"] (spOpened K) := by
  refine F.ok scOpened (fun vs H Q E h => ?_) (fun cdv A outer s H vs Q E hr h => ?_)
  · obtain ⟨x, l, xs, gs, rfl, _⟩ := h
    rfl
  · obtain ⟨x, l, xs, gs, rfl, hx, hg, hP, k⟩ := h
    refine ⟨_, pss_cons (ps_set (i := 2) scOpened.nd rfl (Or.inl rfl) (pe_lst pa_nil))
      (pss_cons (ps_for PassesOwn.never rfl (pi_list (pv 1)) (pg_name (i := 3) scOpened.nd rfl (Or.inl rfl))
        (pss_one (ps_if (PW.pt (pw_and (pt_not (pt_val (pe_callB call_isi (by rfl) T.isi boot_isinstance (pa_cons (pv 3) (pa_cons (pe_bltn (v := .ty "str") (by rfl) T.str boot_str rfl) pa_nil))))) (pw_and1 (pt_cmpR op_eq (pe_ix ix_tup (pv 3) pe_int (fun _ _ => rfl)) (pv 0) (nomark _)))))
          (pss_one (ps_expr (pe_bm PySem.F.plainAttrs_list PySem.F.slot_list_extend PySem.F.type_list_extend SrtF.mt_extT (pv 2) (pa_cons (pe_slice sl_tup (pv 3) (po_some pe_int) po_none) pa_nil))))
          (pss_one (ps_expr (pe_bm PySem.F.plainAttrs_list PySem.F.slot_list_append PySem.F.type_list_append mt_append (pv 2) (pa_cons (pv 3) pa_nil)))))))
      (pss_one (ps_ret (pv 2)))), ?_⟩
    refine ⟨(by show 0 ≤ sizeLine; decide), fun D hD => ?_⟩
    have s0 := Same.new (o := .lst []) (Same.refl H) hD
    refine ⟨_, rfl, l, rfl, ⟨_, s0.seq hx⟩, for_list (K := K) (a := l) (xs := xs) (fun i σ H' => ∃ (v3 : Option V) (ys : List V), σ = [some (.str x), some (.ref l), some (.ref D), v3] ∧ Same H H' ∧ H' D = some (.lst ys) ∧ InL K H' ys (flat x (gs.take i)))
      ⟨none, [], rfl, s0, upd_same, by simp only [List.take_zero]; exact .nil⟩ (fun i σ H' _ ⟨_, _, _, sm, _⟩ => sm.seq hx) ?_ ?_⟩
    · rintro i v σ H' hi ⟨v3, ys, rfl, sm, eD, hys⟩
      obtain ⟨g, hgi, hin⟩ := hg.at hi
      have hgm := List.mem_of_getElem? hgi
      have hin' := hin.same sm
      have hlys := hys.len
      have hfl := flat_len (x := x) (hP.take i)
      have hfl2 := flat_len (x := x) (hP.take (i + 1))
      rw [take_snoc hgi, flat_snoc, List.length_append] at hfl2
      have hsp : ∀ q ∈ flat x (gs.take i), shp q = true := by
        have e : opn (Str.ofString "row") x (gs.take i) = flat x (gs.take i) := by
          unfold opn
          rw [if_pos (by decide +kernel)]
        rw [← e]
        exact ((hP.take i).opn _ x).shp
      obtain ⟨d, t1, t2⟩ := isi_str hin'
      refine ⟨_, rfl, _, _, _, _, _, rfl, .ty "str", t1, t2, _, rfl, ?_⟩
      -- what is appended as it is
      have one : oneP x g = [g] → (∃ y : V, y = v ∧ y = v) → ∃ l2 xs2 y, V.ref D = V.ref l2 ∧ [v] = [y] ∧ H' l2 = some (.lst xs2) ∧ xs2.length + 1 ≤ sizeLine ∧
          ∃ (v3 : Option V) (ys' : List V), [some (V.str x), some (.ref l), some (.ref D), some v] = [some (.str x), some (.ref l), some (.ref D), v3] ∧ Same H (upd H' l2 (.lst (xs2 ++ [y]))) ∧ (upd H' l2 (.lst (xs2 ++ [y]))) D = some (.lst ys') ∧ InL K (upd H' l2 (.lst (xs2 ++ [y]))) ys' (flat x (gs.take (i + 1))) := by
        intro e1 _
        refine ⟨D, ys, v, rfl, rfl, eD, by rw [hlys, sizeLine_eq]; omega, some v, ys ++ [v], rfl, ?_, upd_same, ?_⟩
        · exact fun b o h => by
            rw [upd_ne (ne_of_none h hD)]
            exact sm b o h
        · rw [take_snoc hgi, flat_snoc, e1]
          have off : TupK H' (upd H' D (.lst (ys ++ [v]))) := (TupK.of (Ext.refl H')).off eD
          exact (inL_tk off _ _ hsp hys).app (.cons (in_tk off g v (hP.shp g hgm) hin') .nil)
      rcases shp_cases (hP.shp g hgm) with ⟨y, rfl⟩ | ⟨y, ps, rfl, hp⟩
      · refine iteF ?_
        obtain ⟨l2, xs2, y2, e1, e2, e3, e4, e5⟩ := one rfl ⟨v, rfl, rfl⟩
        exact ⟨_, rfl, .inl ⟨rfl, _, SqL.of eD⟩, _, rfl, l2, xs2, y2, e1, e2, e3, e4, e5⟩
      · refine iteT ?_
        obtain ⟨a, zs, rfl, hz, hgz⟩ := hin'.tup
        obtain ⟨v0, e0, h0⟩ := hgz.get (i := 0) rfl
        obtain rfl := h0.str
        refine ⟨_, rfl, a, zs, 0, _, rfl, rfl, hz, atI_nat (j := 0) e0, _, rfl, rfl, _, rfl, ?_⟩
        refine ite2 (fun h1 => ?_) (fun h1 => ?_)
        · have h1' : y = x := V.str.inj (of_decide_eq_true h1)
          subst h1'
          refine ⟨_, rfl, .inl ⟨rfl, _, SqL.of eD⟩, _, rfl, _, rfl, a, zs, rfl, hz, whole_1 (ne_nil hgz), fun q hq => ?_⟩
          have nD : D ≠ q := ne_of_none eD hq
          have sq := Same.new (o := .tup (cutV zs (some 1) none)) (Same.refl H') hq
          have e1 : oneP y (.t (.s y :: ps)) = ps := by simp [oneP]
          have hd1 : InL K H' (zs.drop 1) ps := hgz.drop 1
          have hdl := hd1.len
          refine ⟨D, q, ys, cutV zs (some 1) none, rfl, rfl, by rw [upd_ne nD]; exact eD, SqT.of upd_same, ?_, _, ys ++ cutV zs (some 1) none, rfl, ?_, upd_same, ?_⟩
          · rw [e1] at hfl2
            rw [cut_1, hdl, hlys, sizeLine_eq]
            omega
          · exact fun b o h => by
              rw [upd_ne (ne_of_none h hD)]
              exact sq b o (sm b o h)
          · rw [take_snoc hgi, flat_snoc, e1]
            have off : TupK H' (upd (upd H' q (.tup (cutV zs (some 1) none))) D (.lst (ys ++ cutV zs (some 1) none))) := (TupK.of (Ext.of sq)).off (by rw [upd_ne nD]; exact eD)
            have z := (inL_tk off _ _ hsp hys).app (inL_tk off _ _ hp hd1)
            rw [← cut_1] at z
            exact z
        · have h1' : y ≠ x := fun z => h1 (by rw [z]; exact decide_eq_true rfl)
          obtain ⟨l2, xs2, y2, e1, e2, e3, e4, e5⟩ := one (by simp [oneP, h1']) ⟨_, rfl, rfl⟩
          exact ⟨_, rfl, .inl ⟨rfl, _, SqL.of eD⟩, _, rfl, l2, xs2, y2, e1, e2, e3, e4, e5⟩
    · rintro σ H' ⟨v3, ys, rfl, sm, eD, hys⟩
      rw [hg.len, List.take_length] at hys
      exact ⟨_, rfl, k H' D ys sm eD hys⟩
theorem scMade : FnScope ["signs", "name", "parts", "kind"] ["signs", "name", "parts"] (defScope sMade) := ⟨rfl, rfl, rfl, by decide +kernel, rfl, by decide +kernel, by decide +kernel⟩
def spMade (K : PySem.W.Frag) (C : Addr) (n : Nat) : Sp := fun vs H Q _ => ∃ (p : Addr) (L : List Ln) (x : Str) (l : Addr) (xs : List V) (gs : List G) (ln : Ln), vs = [.ref p, .str x, .ref l] ∧ SgL K C H p L ∧ LOk L ∧ find L x = some ln ∧ SqL K H l xs ∧ InL K H xs gs ∧ Parts gs n ∧
  ∀ H' v, Same H H' → In K H' v (.t (.s x :: arr ln.2.1 x gs)) → Q v H'
theorem ok_made {f C : Addr} {fd : FuncData} {n m : Nat} (F : Fun K "made" "made" sMade f fd) (MK : Mt P w K mg base C8.CX0 C "kind" 2 ["self", "name"] (spKindG K C)) (DO : Df P w K mg base C8.CX0 "opened" 1 ["name", "parts"] (spOpened K))
    (DT : Df P w K mg base C8.CX0 "text_of" m ["term"] (sp1 K n fun g => .str (text g))) (T : Ct mg) (G' : SgC K C) (hn : n ≤ 2000) : FnOk P w K mg base C8.CX0 (m + 3) f fd ["signs", "name", "parts"] (spMade K C n) := by
  obtain ⟨fk, fdk, FK, mK, bK⟩ := MK.ex
  obtain ⟨ft, fdt, FT, gT, kT, bT⟩ := DT.ex
  refine F.ok scMade (fun vs H Q E h => ?_) (fun cdv A outer s H vs Q E hr h => ?_)
  · obtain ⟨p, L, x, l, xs, gs, ln, rfl, _⟩ := h
    rfl
  · obtain ⟨p, L, x, l, xs, gs, ln, rfl, S, ok, hf, hx, hg, hP, k⟩ := h
    have hr2 : Room 2 _ := hr.mono (by omega)
    refine ⟨_, pss_cons (ps_set (i := 3) scMade.nd rfl (Or.inl rfl) (pe_meth (pv 0) G'.cl mK FK hr2 bK .nil pass0 (pa_cons (pv 1) pa_nil)))
      (C8.pss_cut (ps_if (pt_cmpR (op_inT (units65 hr)) (pv 3) (pe_tup (pa_cons pe_str (pa_cons pe_str pa_nil))) (by rfl)) (pss_one (ps_set (i := 2) scMade.nd rfl (Or.inl rfl) (pe_df DO hr2 pass0 (pa_cons (pv 1) (pa_cons (pv 2) pa_nil))))) pss_nil)
      (C8.pss_cut (ps_if (pt_cmpR (op_inT (units65 hr)) (pv 3) (pe_tup (pa_cons pe_str (pa_cons pe_str pa_nil))) (by rfl)) (pss_one (ps_set (i := 2) scMade.nd rfl (Or.inl rfl) (pe_callBK (SrtF.cr_sortF (T := G) FT hr bT) (by rfl) T.sorted (by decide +kernel) (pa_cons (pv 2) pa_nil) (pk_cons (pe_glob (v := .ref ft) (by rfl) gT rfl) pk_nil)))) pss_nil)
      (pss_one (ps_ret (pe_tup (pa_cons (pv 1) (StX.pa_star (pv 2) pa_nil))))))), ?_⟩
    obtain ⟨rt, td, zs, ⟨⟨dx, hp⟩, _⟩, _⟩ := id S
    obtain ⟨m1, m2⟩ := find_mem hf
    obtain ⟨sk, _, _, _⟩ := kinds_ok _ (ok.kd ln m1)
    refine ⟨_, rfl, p, dx, _, rfl, hp, sgF_no rt td (by decide +kernel) (by decide +kernel), _, rfl, p, L, x, ln, rfl, S, hf, ?_⟩
    refine ⟨fun σ' H' => ∃ (l2 : Addr) (ys : List V), σ' = [some (.ref p), some (.str x), some (.ref l2), some (.str ln.2.1)] ∧ Same H H' ∧ SqL K H' l2 ys ∧ InL K H' ys (opn ln.2.1 x gs), ?_, ?_⟩
    · refine ⟨_, rfl, (by show 2 ≤ sizeLine; decide), fun q hq0 => ⟨.str ln.2.1, [.str "row", .str "heap"], .str _, .tup (SqT.of upd_same) (.cons (.str _) (.cons (.str _) .nil)), sk, by decide +kernel, _, rfl, ?_⟩⟩
      have s1 := Same.new (o := .tup [.str "row", .str "heap"]) (Same.refl H) hq0
      refine ite2 (fun h2 => ?_) (fun h2 => ?_)
      · have h2' : rowish ln.2.1 = true := h2
        refine ⟨_, rfl, _, rfl, x, l, xs, gs, rfl, s1.seq hx, hg.same s1, ⟨hP.shp, hP.fine, fun g hg => Nat.le_trans (hP.dp g hg) hn, hP.sz⟩, fun H2 p2 ys s2 e2 h2 => ⟨p2, ys, rfl, s1.trans s2, SqL.of e2, ?_⟩⟩
        unfold opn
        rw [if_pos h2']
        exact h2
      · refine ⟨l, xs, rfl, s1, s1.seq hx, ?_⟩
        unfold opn
        rw [if_neg (show ¬ rowish ln.2.1 = true from h2)]
        exact hg.same s1
    · rintro σ' H1 ⟨l2, ys, rfl, s1, hl2, hys⟩
      refine ⟨fun σ' H' => ∃ (l3 : Addr) (us : List V), σ' = [some (.ref p), some (.str x), some (.ref l3), some (.str ln.2.1)] ∧ Same H H' ∧ SqL K H' l3 us ∧ InL K H' us (arr ln.2.1 x gs), ?_, ?_⟩
      · refine ⟨_, rfl, (by show 2 ≤ sizeLine; decide), fun q hq0 => ⟨.str ln.2.1, [.str "pair", .str "heap"], .str _, .tup (SqT.of upd_same) (.cons (.str _) (.cons (.str _) .nil)), sk, by decide +kernel, _, rfl, ?_⟩⟩
        have s2 := Same.new (o := .tup [.str "pair", .str "heap"]) (Same.refl H1) hq0
        refine ite2 (fun h2 => ?_) (fun h2 => ?_)
        · have h2' : loose ln.2.1 = true := h2
          have hP2 := hP.opn ln.2.1 x
          obtain ⟨⟨z1, z2⟩, z3⟩ := zip_in (hys.same s2)
          refine ⟨_, rfl, l2, ys.zip (opn ln.2.1 x gs), text, rfl, rfl, by rw [z1]; exact s2.seq hl2, fun pr hpr H' sm => ?_, fun p3 H' sm hp3 => ?_⟩
          · obtain ⟨a1, a2⟩ := z3 pr hpr
            exact ⟨_, _, rfl, a1.same sm, hP2.shp _ a2, hP2.fine _ a2, hP2.dp _ a2, hP2.one a2, fun H'' s'' => ⟨rfl, s''⟩⟩
          · have sN := Same.new (o := .lst (((ys.zip (opn ln.2.1 x gs)).mergeSort (SrtF.leK fun p => text p.2)).map Prod.fst)) sm hp3
            refine ⟨p3, _, rfl, (s1.trans s2).trans sN, SqL.of upd_same, ?_⟩
            unfold arr
            rw [if_pos h2']
            have := sort_pairs (K := K) fun pr hpr => ((z3 pr hpr).1.same sN)
            rw [z2] at this
            exact this
        · refine ⟨l2, ys, rfl, s1.trans s2, s2.seq hl2, ?_⟩
          unfold arr
          rw [if_neg (show ¬ loose ln.2.1 = true from h2)]
          exact hys.same s2
      · rintro σ' H2 ⟨l3, us, rfl, s2, hl3, hus⟩
        have hul := hus.len
        have hal : (arr ln.2.1 x gs).length ≤ 2000 := by
          rw [(arr_perm ln.2.1 x gs).length_eq]
          exact (hP.opn ln.2.1 x).len
        refine ⟨_, rfl, _, rfl, l3, us, rfl, .inr hl3, ?_, fun q hq => k _ _ (s2.trans (Same.new (Same.refl H2) hq)) (.t (SqT.of upd_same) (.cons (.s x) ?_))⟩
        · rw [sizeLine_eq]
          simp only [List.length_cons, List.length_append, List.length_nil]
          omega
        · have e : us ++ [] = us := List.append_nil us
          rw [e]
          exact hus.same (Same.new (Same.refl H2) hq)
end
end K1
set_option Elab.async false
set_option linter.all false
set_option maxRecDepth 100000
set_option maxHeartbeats 1000000
namespace K1
open PySem PySem.Spec PyProof.Rows L2
open PySem.W (EachIs)
theorem kindOf_find {L : List Ln} {x : Str} {l : Ln} (h : find L x = some l) : kindOf L x = l.2.1 := by
  unfold kindOf
  rw [h]
theorem parts_of {L : List Ln} {n : Nat} {x : Str} {ps : List G} (hs : ∀ p ∈ ps, shp p = true) (hf : fine (.t (.s x :: ps)) = true) (hd : dp (.t (.s x :: ps)) ≤ n + 1) (hz : sz (.t (.s x :: ps)) ≤ 2000) : Parts (ps.map (laid L)) n := by
  have key : ∀ p ∈ ps, Less (laid L p) p := fun p hm => laid_less (dp p) p (Nat.le_refl _) (hs p hm) (fine_mem hf (List.mem_cons_of_mem _ hm))
  refine ⟨fun g hg => ?_, fun g hg => ?_, fun g hg => ?_, ?_⟩
  · obtain ⟨p, hm, rfl⟩ := List.mem_map.mp hg
    exact (key p hm).shp
  · obtain ⟨p, hm, rfl⟩ := List.mem_map.mp hg
    exact (key p hm).fine
  · obtain ⟨p, hm, rfl⟩ := List.mem_map.mp hg
    exact Nat.le_trans (key p hm).dp (dp_mem hd (List.mem_cons_of_mem _ hm))
  · rw [List.map_map]
    have h1 : (ps.map (sz ∘ laid L)).sum ≤ (ps.map sz).sum := sum_map_le fun p hm => (key p hm).sz
    rw [sz_ts] at hz
    omega
theorem each_fine {K : PySem.W.Frag} {H : Hp} {F : G → G} {P R : G → Prop} : ∀ {ys : List V} {ps : List G}, EachIs (fun y g => P g → R g → In K H y (F g)) ys ps → (∀ g ∈ ps, P g) → (∀ g ∈ ps, R g) → EachIs (fun y g => In K H y (F g)) ys ps
  | _, _, .nil, _, _ => .nil
  | _, _, .cons h t, a, b => .cons (h (a _ List.mem_cons_self) (b _ List.mem_cons_self)) (each_fine t (fun g hg => a g (List.mem_cons_of_mem _ hg)) (fun g hg => b g (List.mem_cons_of_mem _ hg)))
def spAnew (K : PySem.W.Frag) (C : Addr) (n : Nat) : Sp := fun vs H Q _ => ∃ (p : Addr) (L : List Ln) (v : V) (g : G), vs = [.ref p, v] ∧ SgL K C H p L ∧ LOk L ∧ In K H v g ∧ stands L g = true ∧ fine g = true ∧ dp g ≤ n ∧ sz g ≤ 2000 ∧
  ∀ H' v', Same H H' → In K H' v' (laid L g) → Q v' H'
def lay0 (L : List Ln) (g : G) : Bool := stands L g && (decide (points g ≤ 80) && (decide (deep g ≤ 12) && !beyond (laid L g)))
def spOrNone (K : PySem.W.Frag) (C : Addr) : Sp := fun vs H Q _ => ∃ (p : Addr) (L : List Ln) (v : V) (g : G), vs = [.ref p, v] ∧ SgL K C H p L ∧ LOk L ∧ In K H v g ∧ fine g = true ∧ sz g ≤ 2000 ∧
  ∀ H', Same H H' → (lay0 L g = false → Q .non H') ∧ (lay0 L g = true → ∀ v', In K H' v' (laid L g) → Q v' H')
def spIs (K : PySem.W.Frag) (C : Addr) (f : List Ln → G → Bool) : Sp := fun vs H Q _ => ∃ (p : Addr) (L : List Ln) (v : V) (g : G), vs = [.ref p, v] ∧ SgL K C H p L ∧ LOk L ∧ In K H v g ∧ fine g = true ∧ sz g ≤ 2000 ∧ ∀ H', Same H H' → Q (.bl (f L g)) H'
def isTermB (L : List Ln) (g : G) : Bool := lay0 L g && PyData.eqv (toD (laid L g)) (toD g)
section
variable {P : Program} {w : World} {K : PySem.W.Frag} {mg : Str → Option Value} {base : Heap}
theorem scAnew : FnScope ["signs", "draft", "part"] ["signs", "draft"] (defScope sAnew) := ⟨rfl, rfl, rfl, by decide +kernel, rfl, by decide +kernel, by decide +kernel⟩
theorem ok_anew {f C : Addr} {fd : FuncData} {n N m : Nat} (F : Fun K "laid_anew" "laid_anew" sAnew f fd) (IH : Df P w K mg base C8.CX0 "laid_anew" m ["signs", "draft"] (spAnew K C n)) (DM : Df P w K mg base C8.CX0 "made" m ["signs", "name", "parts"] (spMade K C N)) (T : Ct mg) (hN : n ≤ N) :
    FnOk P w K mg base C8.CX0 (m + 1) f fd ["signs", "draft"] (spAnew K C (n + 1)) := by
  refine F.ok scAnew (fun vs H Q E h => ?_) (fun cdv A outer s H vs Q E hr h => ?_)
  · obtain ⟨p, L, v, g, rfl, _⟩ := h
    rfl
  · obtain ⟨p, L, v, g, rfl, S, ok, hin, hst, hf, hd, hz, k⟩ := h
    refine ⟨_, pss_cons (ps_if (pt_val (pe_callB call_isi (by rfl) T.isi boot_isinstance (pa_cons (pv 1) (pa_cons (pe_bltn (v := .ty "str") (by rfl) T.str boot_str rfl) pa_nil)))) (pss_one (ps_ret (pv 1))) pss_nil)
      (pss_one (ps_ret (pe_df DM hr pass0 (pa_cons (pv 0) (pa_cons (pe_ix ix_tup (pv 1) pe_int (fun _ _ => rfl)) (pa_cons (pe_lc (own := [("part", 2)]) (g := gName 2) (tt := tYes) rfl scAnew.nd (pi_tup (pe_slice sl_tup (pv 1) (po_some pe_int) po_none)) (blkOk_by (N := ["signs", "draft", "part"]) (sc := defScope sAnew) (by decide +kernel)) (fun _ _ _ _ _ => pg_name (i := 2) scAnew.nd rfl (Or.inl rfl)) (fun _ _ _ _ _ => pts_nil)
        (fun _ _ _ _ _ => pe_df IH hr pass0 (pa_cons (pv 0) (pa_cons (pv 2) pa_nil)) (Nat.le_refl _))) pa_nil))) (Nat.le_refl _)))), ?_⟩
    obtain ⟨d, t1, t2⟩ := isi_str hin
    refine ⟨_, rfl, _, _, _, _, _, rfl, .ty "str", t1, t2, _, rfl, ?_⟩
    obtain ⟨hs, _⟩ := stands_shp (dp g) g (Nat.le_refl _) hst
    rcases shp_cases hs with ⟨x, rfl⟩ | ⟨y, ps, rfl, hp⟩
    · exact iteT ⟨_, rfl, k H v (Same.refl H) (by rw [laid_s]; exact hin)⟩
    · refine iteF ?_
      obtain ⟨a, xs, rfl, hx, hg⟩ := hin.tup
      obtain ⟨v0, e0, h0⟩ := hg.get (i := 0) rfl
      obtain rfl := h0.str
      obtain ⟨y', l, ey, hfi, hsp⟩ := stands_head hst
      cases ey
      have hlen := hg.len
      have hsl := sz_len (.s y :: ps)
      refine ⟨_, rfl, _, rfl, a, xs, 0, _, rfl, rfl, hx, atI_nat (j := 0) e0, _, rfl, _, rfl, a, xs, rfl, hx, whole_1 (ne_nil hg), fun q hq => ⟨q, rfl, ⟨_, SqT.of upd_same⟩, fun D hD => ?_⟩⟩
      have sq := Same.new (o := .tup (cutV xs (some 1) none)) (Same.refl H) hq
      have hgd : InL K (upd H q (.tup (cutV xs (some 1) none))) (cutV xs (some 1) none) ps := by
        have z := (hg.drop 1).same sq
        rw [← cut_1] at z
        exact z
      have hPl := parts_of (L := L) hp hf hd hz
      refine lc_in (K := K) (gs := ps) (J := fun H' => Same (upd H q (.tup (cutV xs (some 1) none))) H') (fun H y g => shp g = true → fine g = true → In K H y (laid L g)) hD (SqT.of upd_same) hgd ?_ (fun y g H H' h tk h1 h2 => in_tk tk _ _ (laid_less (dp g) g (Nat.le_refl _) h1 h2).shp (h h1 h2)) (fun _ => rfl) (same_J (H := H) hD) (Same.new (Same.refl _) hD) ?_ ?_
      · rw [hgd.len]
        simp only [List.length_cons] at hsl
        omega
      · intro x g H' hgm hxin e hjj Q' q'
        have hgm' : g ∈ .s y :: ps := List.mem_cons_of_mem _ hgm
        exact ⟨_, rfl, x, rfl, p, L, x, g, rfl, S.same (sq.trans hjj), ok, hxin, hsp g hgm, fine_mem hf hgm', dp_mem hd hgm', by have := sz_mem hgm'; omega, fun H'' v' s'' hv' => q' _ _ (.of s'') (hjj.trans s'') fun _ _ => hv'⟩
      · intro H' ys e hjj eD hr'
        have sA := sq.trans hjj
        have hys : InL K H' ys (ps.map (laid L)) := by
          have hr2 := each_fine (P := fun g => shp g = true) (R := fun g => fine g = true) hr' hp fun g hg => fine_mem hf (List.mem_cons_of_mem _ hg)
          exact each_in hr2
        exact ⟨p, L, y, D, ys, ps.map (laid L), l, rfl, S.same sA, ok, hfi, SqL.of eD, hys, ⟨hPl.shp, hPl.fine, fun g hg => Nat.le_trans (hPl.dp g hg) hN, hPl.sz⟩, fun H'' v' s'' hv' => k H'' v' (sA.trans s'') (by rw [laid_t, kindOf_find hfi]; exact hv')⟩
theorem scOrNone : FnScope ["signs", "thing", "term"] ["signs", "thing"] (defScope sOrNone) := ⟨rfl, rfl, rfl, by decide +kernel, rfl, by decide +kernel, by decide +kernel⟩
theorem ok_orNone {f C : Addr} {fd : FuncData} {m : Nat} (F : Fun K "laid_or_none" "laid_or_none" sOrNone f fd) (DD : Df P w K mg base C8.CX0 "draft_points" m ["signs", "thing", "levels", "room"] (spDr K C 12)) (DA : Df P w K mg base C8.CX0 "laid_anew" m ["signs", "draft"] (spAnew K C 13))
    (DB : Df P w K mg base C8.CX0 "is_beyond" m ["term"] (sp1 K 13 fun g => .bl (beyond g))) (T : Ct mg) : FnOk P w K mg base C8.CX0 (m + 1) f fd ["signs", "thing"] (spOrNone K C) := by
  refine F.ok scOrNone (fun vs H Q E h => ?_) (fun cdv A outer s H vs Q E hr h => ?_)
  · obtain ⟨p, L, v, g, rfl, _⟩ := h
    rfl
  · obtain ⟨p, L, v, g, rfl, S, ok, hin, hf, hz, k⟩ := h
    obtain ⟨_, hmp⟩ := T.mpts
    obtain ⟨_, hmd⟩ := T.mdeep
    refine ⟨_, pss_cons (ps_if (pt_cmpR op_eq (pe_df DD hr pass0 (pa_cons (pv 0) (pa_cons (pv 1) (pa_cons (pe_glob (v := .int 12) (by rfl) hmd ⟨_, rfl⟩) (pa_cons (pe_glob (v := .int 80) (by rfl) hmp ⟨_, rfl⟩) pa_nil)))) (Nat.le_refl _)) pe_int (nomark _)) (pss_one (ps_ret pe_non)) pss_nil)
      (pss_cons (ps_set (i := 2) scOrNone.nd rfl (Or.inl rfl) (pe_df DA hr pass0 (pa_cons (pv 0) (pa_cons (pv 1) pa_nil)) (Nat.le_refl _)))
      (pss_one (ps_ret (pe_ifExp (pt_val (pe_df DB hr pass0 (pa_cons (pv 2) pa_nil) (Nat.le_refl _))) pe_non (pv 2))))), ?_⟩
    refine ⟨_, rfl, _, rfl, p, L, v, g, 12, 80, rfl, S, ok, hin, hf, hz, Nat.le_refl _, fun H1 s1 => ⟨rfl, _, rfl, ?_⟩⟩
    refine ite2 (fun h1 => ?_) (fun h1 => ?_)
    · have h1' : drp L g 12 80 = 0 := by
        have := V.int.inj (of_decide_eq_true h1)
        omega
      refine (k H1 s1).1 ?_
      unfold lay0
      cases q : stands L g with
      | false => rfl
      | true =>
        by_cases q1 : points g ≤ 80
        · by_cases q2 : deep g ≤ 12
          · rw [drp_is ⟨q, q1, q2⟩] at h1'
            have := points_pos g
            omega
          · rw [decide_eq_false q2, Bool.false_and, Bool.and_false, Bool.and_false]
        · rw [decide_eq_false q1, Bool.false_and, Bool.and_false]
    · have h1' : drp L g 12 80 ≠ 0 := fun z => h1 (by rw [z]; rfl)
      obtain ⟨q, q1, q2⟩ := drp_no0 h1'
      obtain ⟨hs, hdd⟩ := stands_shp (dp g) g (Nat.le_refl _) q
      have el : lay0 L g = !beyond (laid L g) := by
        unfold lay0
        rw [q, decide_eq_true q1, decide_eq_true q2]
        rfl
      have hL := laid_less (L := L) (dp g) g (Nat.le_refl _) hs hf
      refine ⟨_, rfl, _, rfl, p, L, v, g, rfl, S.same s1, ok, hin.same s1, q, hf, by omega, hz, fun H2 v2 s2 hv2 => ?_⟩
      refine ⟨_, rfl, v2, laid L g, rfl, hv2, hL.shp, hL.fine, by have := hL.dp; omega, by have := hL.sz; omega, fun H3 s3 => ⟨_, rfl, ?_⟩⟩
      obtain ⟨k1, k2⟩ := k H3 ((s1.trans s2).trans s3)
      refine ite2 (fun h2 => k1 ?_) (fun h2 => ⟨_, rfl, k2 ?_ v2 (hv2.same s3)⟩)
      · rw [el, h2]
        rfl
      · rw [el]
        simpa using h2
theorem not_non {K : PySem.W.Frag} {H : Hp} {v : V} {g : G} (h : In K H v g) (hs : shp g = true) : decide (v = V.non) = false := by
  rcases shp_cases hs with ⟨x, rfl⟩ | ⟨y, ps, rfl, hp⟩
  · rw [h.str]
    rfl
  · obtain ⟨a, xs, rfl, _⟩ := h.tup
    rfl
theorem lay0_less {L : List Ln} {g : G} (h : lay0 L g = true) (hf : fine g = true) : Less (laid L g) g ∧ shp g = true ∧ dp g ≤ 13 := by
  unfold lay0 at h
  rw [Bool.and_eq_true, Bool.and_eq_true, Bool.and_eq_true, decide_eq_true_iff, decide_eq_true_iff] at h
  obtain ⟨q, q1, q2, _⟩ := h
  obtain ⟨hs, hdd⟩ := stands_shp (dp g) g (Nat.le_refl _) q
  exact ⟨laid_less (dp g) g (Nat.le_refl _) hs hf, hs, by omega⟩
end
end K1
set_option Elab.async false
set_option linter.all false
set_option maxRecDepth 100000
set_option maxHeartbeats 1000000
namespace K1
open PySem PySem.Spec PyProof.Rows L2
open PySem.W (EachIs)
/-! ### the law's own looks at terms -/
abbrev sLText : Stmt := topS 52
abbrev sLPts : Stmt := topS 54
abbrev sLDeep : Stmt := topS 55
section
variable {P : Program} {w : World} {K : PySem.W.Frag} {mg : Str → Option Value} {base : Heap}
abbrev nTP : List Str := ["_law_tree", "_law_part"]
theorem scLText : FnScope nTP ["_law_tree"] (defScope sLText) := ⟨rfl, rfl, rfl, by decide +kernel, rfl, by decide +kernel, by decide +kernel⟩
theorem ok_ltext {f : Addr} {fd : FuncData} {n : Nat} (F : Fun K "_law_text" "_law_text" sLText f fd) (IH : Df P w K mg base C8.CX0 "_law_text" n ["_law_tree"] (sp1 K n fun g => .str (text g))) (T : Ct mg) :
    FnOk P w K mg base C8.CX0 (n + 1) f fd ["_law_tree"] (sp1 K (n + 1) fun g => .str (text g)) := by
  refine F.ok scLText (fun vs H Q E h => ?_) (fun cdv A outer s H vs Q E hr h => ?_)
  · obtain ⟨v, g, rfl, _⟩ := h
    rfl
  · obtain ⟨v, g, rfl, hin, hs, hf, hd, hz, k⟩ := h
    refine ⟨_, pss_cons (ps_if (pt_val (pe_callB call_isi (by rfl) T.isi boot_isinstance (pa_cons (pv 0) (pa_cons (pe_bltn (v := .ty "str") (by rfl) T.str boot_str rfl) pa_nil)))) (pss_one (ps_ret (pv 0))) pss_nil)
      (pss_cons (ps_if (pt_cmpR op_eq (pe_callB call_len (by rfl) T.len PySem.boot_len (pa_cons (pv 0) pa_nil)) pe_int (nomark _)) (pss_one (ps_ret (pe_ix ix_tup (pv 0) pe_int (fun _ _ => rfl)))) pss_nil)
      (pss_one (ps_ret (pe_op op_add_str (pe_op op_add_str (pe_op op_add_str (pe_ix ix_tup (pv 0) pe_int (fun _ _ => rfl)) pe_str) (pe_join pe_str (pe_lc (own := [("_law_part", 1)]) (g := gName 1) (tt := tYes) rfl scLText.nd (pi_tup (pe_slice sl_tup (pv 0) (po_some pe_int) po_none)) (blkOk_by (N := nTP) (sc := defScope sLText) (by decide +kernel)) (fun _ _ _ _ _ => pg_name (i := 1) scLText.nd rfl (Or.inl rfl)) (fun _ _ _ _ _ => pts_nil)
        (fun _ _ _ _ _ => pe_df IH hr pass0 (pa_cons (pv 1) pa_nil) (Nat.le_refl _))))) pe_str)))), ?_⟩
    obtain ⟨d, t1, t2⟩ := isi_str hin
    refine ⟨_, rfl, _, _, _, _, _, rfl, .ty "str", t1, t2, _, rfl, ?_⟩
    have k' : ∀ H', Same H H' → Q (.str (text g)) H' := k
    rcases shp_cases hs with ⟨x, rfl⟩ | ⟨y, ps, rfl, hp⟩
    · refine iteT ⟨_, rfl, ?_⟩
      rw [hin.str]
      have q1 := k' H (Same.refl H)
      rw [show text (.s x) = x by rw [text]] at q1
      exact q1
    · refine iteF ?_
      obtain ⟨a, xs, rfl, hx, hg⟩ := hin.tup
      have hlen := hg.len
      have hy : y.length ≤ 10 := hd_len (fine_mem hf (p := .s y) List.mem_cons_self)
      obtain ⟨v0, e0, h0⟩ := hg.get (i := 0) rfl
      obtain rfl := h0.str
      refine ⟨_, rfl, .ref a, xs.length, rfl, .inr ⟨xs, hx, rfl⟩, rfl, _, rfl, ?_⟩
      cases ps with
      | nil =>
        refine iteT_ (by rw [hlen]; exact vint_eq rfl) ⟨_, rfl, a, xs, 0, _, rfl, rfl, hx, atI_nat (j := 0) e0, ?_⟩
        have q1 := k' H (Same.refl H)
        rw [text_one] at q1
        exact q1
      | cons p ps =>
        refine iteF_ (vint_ne (by rw [hlen]; simp only [List.length_cons]; omega)) ?_
        have lp : (Str.ofString "(").length = 1 := by decide +kernel
        have rp : (Str.ofString ")").length = 1 := by decide +kernel
        refine ⟨_, rfl, a, xs, 0, _, rfl, rfl, hx, atI_nat (j := 0) e0, _, _, rfl, rfl, ?_, ⟨_, rfl⟩, _, rfl, _, rfl, a, xs, rfl, hx, whole_1 (ne_nil hg), fun q hq => ⟨q, rfl, ⟨_, SqT.of upd_same⟩, fun D hD => rd2 hg hp hf hd hz hq hD (fun _ => rfl) (fun _ => rfl) (fun H' sm eD => ?_)⟩⟩
        · rw [lp, sizeLine_eq]
          omega
        · have htl := text_len _ _ (Nat.le_refl _) hf
          have hjl := join_len (Str.ofString ",") ((p :: ps).map text)
          have e3 : (Str.ofString ",").length = 1 := by decide +kernel
          rw [e3, Nat.mul_one] at hjl
          have hsum : (((p :: ps).map text).map (·.length)).sum + ((p :: ps).map text).length ≤ 26000 := by
            rw [List.map_map, List.length_map, ← succ_sum]
            have hs : ((p :: ps).map fun q => (text q).length + 1).sum ≤ ((p :: ps).map fun q => 13 * sz q).sum := sum_map_le fun q hq => text_len _ q (Nat.le_refl _) (fine_mem hf (List.mem_cons_of_mem _ hq))
            have e5 : ((p :: ps).map fun q => 13 * sz q).sum = 13 * ((p :: ps).map sz).sum := by
              rw [← sum_mul, List.map_map]
              rfl
            rw [sz_t, List.map_cons, List.sum_cons] at hz
            have := sz_pos (.s y)
            omega
          refine ⟨_, D, (p :: ps).map text, rfl, rfl, .inl (SqL.of (by rw [eD, List.map_map]; rfl)), by rw [e3, Nat.mul_one]; omega, _, _, rfl, rfl, ?_, _, _, rfl, rfl, ?_, ?_⟩
          · rw [app_len, lp, sizeLine_eq]
            omega
          · rw [app_len, app_len, lp, rp, sizeLine_eq]
            omega
          · have q1 := k' H' sm
            rw [text_more] at q1
            exact q1
theorem scLPts : FnScope nTP ["_law_tree"] (defScope sLPts) := ⟨rfl, rfl, rfl, by decide +kernel, rfl, by decide +kernel, by decide +kernel⟩
theorem ok_lpts {f : Addr} {fd : FuncData} {n : Nat} (F : Fun K "_law_points" "_law_points" sLPts f fd) (IH : Df P w K mg base C8.CX0 "_law_points" n ["_law_tree"] (sp1 K n fun g => .int (points g))) (T : Ct mg) :
    FnOk P w K mg base C8.CX0 (n + 1) f fd ["_law_tree"] (sp1 K (n + 1) fun g => .int (points g)) := by
  refine F.ok scLPts (fun vs H Q E h => ?_) (fun cdv A outer s H vs Q E hr h => ?_)
  · obtain ⟨v, g, rfl, _⟩ := h
    rfl
  · obtain ⟨v, g, rfl, hin, hs, hf, hd, hz, k⟩ := h
    refine ⟨_, pss_cons (ps_if (pt_val (pe_callB call_isi (by rfl) T.isi boot_isinstance (pa_cons (pv 0) (pa_cons (pe_bltn (v := .ty "str") (by rfl) T.str boot_str rfl) pa_nil)))) (pss_one (ps_ret pe_int)) pss_nil)
      (pss_one (ps_ret (pe_op op_add pe_int (pe_callB (cr_sum rfl) (by rfl) T.sum (by decide +kernel) (pa_cons (pe_lc (own := [("_law_part", 1)]) (g := gName 1) (tt := tYes) rfl scLPts.nd (pi_tup (pe_slice sl_tup (pv 0) (po_some pe_int) po_none)) (blkOk_by (N := nTP) (sc := defScope sLPts) (by decide +kernel)) (fun _ _ _ _ _ => pg_name (i := 1) scLPts.nd rfl (Or.inl rfl)) (fun _ _ _ _ _ => pts_nil)
        (fun _ _ _ _ _ => pe_df IH hr pass0 (pa_cons (pv 1) pa_nil) (Nat.le_refl _))) pa_nil))))), ?_⟩
    obtain ⟨d, t1, t2⟩ := isi_str hin
    refine ⟨_, rfl, _, _, _, _, _, rfl, .ty "str", t1, t2, _, rfl, ?_⟩
    have k' : ∀ H', Same H H' → Q (.int (points g)) H' := k
    rcases shp_cases hs with ⟨x, rfl⟩ | ⟨y, ps, rfl, hp⟩
    · refine iteT ?_
      have q1 := k' H (Same.refl H)
      rw [show points (.s x) = 1 by simp [points]] at q1
      exact q1
    · refine iteF ?_
      obtain ⟨a, xs, rfl, hx, hg⟩ := hin.tup
      refine ⟨_, rfl, _, rfl, a, xs, rfl, hx, whole_1 (ne_nil hg), fun q hq => ⟨q, rfl, ⟨_, SqT.of upd_same⟩, fun D hD => rd2 hg hp hf hd hz hq hD (fun _ => rfl) (fun _ => rfl) (fun H' sm eD => ⟨D, (ps.map points).map fun n : Nat => (n : Int), rfl, SqL.of (by rw [eD, ints_map]), _, _, rfl, rfl, ?_⟩)⟩⟩
      have q1 := k' H' sm
      rw [points_t] at q1
      rw [int_sum]
      exact q1
theorem scLDeep : FnScope nTP ["_law_tree"] (defScope sLDeep) := ⟨rfl, rfl, rfl, by decide +kernel, rfl, by decide +kernel, by decide +kernel⟩
theorem ok_ldeep {f : Addr} {fd : FuncData} {n : Nat} (F : Fun K "_law_deep" "_law_deep" sLDeep f fd) (IH : Df P w K mg base C8.CX0 "_law_deep" n ["_law_tree"] (sp1 K n fun g => .int (deep g))) (T : Ct mg) :
    FnOk P w K mg base C8.CX0 (n + 1) f fd ["_law_tree"] (sp1 K (n + 1) fun g => .int (deep g)) := by
  refine F.ok scLDeep (fun vs H Q E h => ?_) (fun cdv A outer s H vs Q E hr h => ?_)
  · obtain ⟨v, g, rfl, _⟩ := h
    rfl
  · obtain ⟨v, g, rfl, hin, hs, hf, hd, hz, k⟩ := h
    refine ⟨_, pss_cons (ps_if (pt_val (pe_callB call_isi (by rfl) T.isi boot_isinstance (pa_cons (pv 0) (pa_cons (pe_bltn (v := .ty "str") (by rfl) T.str boot_str rfl) pa_nil)))) (pss_one (ps_ret pe_int)) pss_nil)
      (pss_one (ps_ret (pe_op op_add pe_int (pe_callB (cr_max rfl) (by rfl) T.max (by decide +kernel) (pa_cons (pe_op op_cat (pe_lst (pa_cons pe_int pa_nil)) (pe_lc (own := [("_law_part", 1)]) (g := gName 1) (tt := tYes) rfl scLDeep.nd (pi_tup (pe_slice sl_tup (pv 0) (po_some pe_int) po_none)) (blkOk_by (N := nTP) (sc := defScope sLDeep) (by decide +kernel)) (fun _ _ _ _ _ => pg_name (i := 1) scLDeep.nd rfl (Or.inl rfl)) (fun _ _ _ _ _ => pts_nil)
        (fun _ _ _ _ _ => pe_df IH hr pass0 (pa_cons (pv 1) pa_nil) (Nat.le_refl _)))) pa_nil))))), ?_⟩
    obtain ⟨d, t1, t2⟩ := isi_str hin
    refine ⟨_, rfl, _, _, _, _, _, rfl, .ty "str", t1, t2, _, rfl, ?_⟩
    have k' : ∀ H', Same H H' → Q (.int (deep g)) H' := k
    rcases shp_cases hs with ⟨x, rfl⟩ | ⟨y, ps, rfl, hp⟩
    · refine iteT ?_
      have q1 := k' H (Same.refl H)
      rw [show deep (.s x) = 1 by simp [deep]] at q1
      exact q1
    · refine iteF ?_
      obtain ⟨a, xs, rfl, hx, hg⟩ := hin.tup
      have hsl := sz_len (.s y :: ps)
      refine ⟨(by show 1 ≤ sizeLine; decide), fun l hl => ?_⟩
      have s1 := Same.new (o := .lst [.int 0]) (Same.refl H) hl
      refine ⟨_, rfl, _, rfl, a, xs, rfl, sqt_same s1 hx, whole_1 (ne_nil hg), fun q hq => ⟨q, rfl, ⟨_, SqT.of upd_same⟩, fun D hD => rd2 (hg.same s1) hp hf hd hz hq hD (fun _ => rfl) (fun _ => rfl) (fun H' sm eD => ⟨l, D, _, _, rfl, rfl, sm _ _ upd_same, eD, ?_, fun p hp => ⟨p, ((0 :: ps.map deep).map fun n : Nat => (n : Int)), rfl, SqL.of ?_, ?_, fun m hm hmx => ⟨_, _, rfl, rfl, ?_⟩⟩⟩)⟩⟩
      · rw [List.length_map, sizeLine_eq]
        simp only [List.length_cons, List.length_nil] at hsl ⊢
        omega
      · rw [upd_same, ints_map deep ps, List.map_cons, List.map_cons]
        rfl
      · simp
      · rw [maxl_of hm hmx]
        have e : ((1 : Int) + ((maxl (0 :: ps.map deep) : Nat) : Int)) = ((deep (.t (.s y :: ps)) : Nat) : Int) := by
          rw [deep_t, show maxl (0 :: ps.map deep) = maxl (ps.map deep) from Nat.zero_max _]
          omega
        show Q (.int (1 + ((maxl (0 :: ps.map deep) : Nat) : Int))) _
        rw [e]
        exact k' _ (Same.new (s1.trans sm) hp)
end
end K1
set_option Elab.async false
set_option linter.all false
set_option maxRecDepth 100000
set_option maxHeartbeats 1000000
namespace K1
open PySem PySem.Spec PyProof.Rows L2
open PySem.W (EachIs)
/-- a if c else b, as a test -/
def tIfT (tc ta tb : TT) : TT := fun σ H Q => tc σ H fun c H1 => if c = true then ta σ H1 Q else tb σ H1 Q
theorem pt_ifE {X : Cx} {c a b : Expr} {tc ta tb : TT} {pos : Pos} (hc : PT X c tc) (ha : PT X a ta) (hb : PT X b tb) : PT X (.IfExp c a b pos) (tIfT tc ta tb) := by
  refine ⟨fun pins s σ H Q I h => ?_⟩
  refine PyProof.Rows.isTrue_IfExp (thn (hc.run pins s σ H _ I h) fun d s1 ⟨H1, I1, q1⟩ => ?_)
  cases d with
  | true => exact ha.run pins s1 σ H1 Q I1 q1
  | false => exact hb.run pins s1 σ H1 Q I1 q1
/-- the lines as a list of rows -/
def Lst (K : PySem.W.Frag) (H : Hp) (a : Addr) (L : List Ln) : Prop := ∃ xs, SqL K H a xs ∧ DpAll K H xs (L.map rowD)
theorem Lst.ext {K : PySem.W.Frag} {H H' : Hp} {a : Addr} {L : List Ln} (s : Ext H H') (h : Lst K H a L) : Lst K H' a L := by
  obtain ⟨xs, h1, h2⟩ := h
  exact ⟨xs, s.sql h1, dpr_ext s L h2⟩
theorem Lst.same {K : PySem.W.Frag} {H H' : Hp} {a : Addr} {L : List Ln} (s : Same H H') (h : Lst K H a L) : Lst K H' a L := h.ext (.of s)
theorem dpr_tk {K : PySem.W.Frag} {H H' : Hp} (s : TupK H H') : ∀ {xs : List V} (L : List Ln), DpAll K H xs (L.map rowD) → DpAll K H' xs (L.map rowD)
  | _, [], .nil => .nil
  | _, l :: L, .cons h t => by
    refine .cons ?_ (dpr_tk s L t)
    cases h with
    | tup ht ha =>
      obtain ⟨a1, r, rfl, h1, t1⟩ := one_more ha
      obtain ⟨a2, r, rfl, h2, t2⟩ := one_more t1
      obtain ⟨a3, r, rfl, h3, t3⟩ := one_more t2
      cases no_more t3
      cases h1
      cases h2
      cases h3
      exact .tup (s.sqt ht) (.cons (.str _) (.cons (.str _) (.cons (.int _) .nil)))
theorem dpr_snoc {K : PySem.W.Frag} {H : Hp} {x : V} {l : Ln} : ∀ {xs : List V} {L : List Ln}, DpAll K H xs (L.map rowD) → Dp K H x (rowD l) → DpAll K H (xs ++ [x]) ((L ++ [l]).map rowD)
  | _, [], .nil, h => .cons h .nil
  | _, m :: L, .cons h t, h2 => .cons h (dpr_snoc t h2)
theorem row_at {K : PySem.W.Frag} {H : Hp} {x : V} {l : Ln} (h : Dp K H x (rowD l)) : ∃ b, x = .ref b ∧ SqT K H b [.str l.1, .str l.2.1, .int l.2.2] := by
  obtain ⟨b, vk, vm, rfl, hb, hk, hm⟩ := row_of h
  cases hk
  cases hm
  exact ⟨b, rfl, hb⟩
theorem dpr_at {K : PySem.W.Frag} {H : Hp} {xs : List V} {L : List Ln} {i : Nat} {x : V} (h : DpAll K H xs (L.map rowD)) (hx : xs[i]? = some x) : ∃ l, L[i]? = some l ∧ Dp K H x (rowD l) := by
  obtain ⟨d, hd, hx'⟩ := dpAll_at h hx
  rw [List.getElem?_map] at hd
  cases e : L[i]? with
  | none => rw [e] at hd; cases hd
  | some l =>
    rw [e] at hd
    exact ⟨l, rfl, by rw [show rowD l = d from Option.some.inj hd]; exact hx'⟩
theorem find_head : ∀ (L : List Ln) (x : Str), find L x = (L.filter fun l => decide (l.1 = x)).head?
  | [], x => rfl
  | m :: L, x => by
    unfold find
    by_cases e : m.1 = x
    · rw [if_pos e, List.filter_cons_of_pos (by simpa using e)]
      rfl
    · rw [if_neg e, List.filter_cons_of_neg (by simpa using e), find_head L x]
abbrev sLKinds : Stmt := topS 51
abbrev sLLaid : Stmt := topS 53
abbrev nStands : List Str := ["_law_lines", "_law_matter", "_law_found", "_law_row", "_law_kind", "_law_many", "_law_size", "_law_part"]
def spStands (K : PySem.W.Frag) (n : Nat) : Sp := fun vs H Q _ => ∃ (a : Addr) (L : List Ln) (v : V) (g : G), vs = [.ref a, v] ∧ Lst K H a L ∧ LOk L ∧ In K H v g ∧ fine g = true ∧ dp g ≤ n ∧ sz g ≤ 2000 ∧ ∀ H', Same H H' → Q (.bl (stands L g)) H'
section
variable {P : Program} {w : World} {K : PySem.W.Frag} {mg : Str → Option Value} {base : Heap}
end
end K1
set_option Elab.async false
set_option linter.all false
set_option maxRecDepth 100000
set_option maxHeartbeats 1000000
namespace K1
open PySem PySem.Spec PyProof.Rows L2
open PySem.W (EachIs)
/-- the kinds by their names -/
def kd (L : List Ln) : List (Key × V) := L.map fun l => ((Sum.inr l.1 : Key), V.str l.2.1)
theorem kd_val (x : Str) : ∀ L : List Ln, valV (kd L) (Sum.inr x : Key) = (find L x).map fun l => V.str l.2.1
  | [] => rfl
  | l :: L => by
    have ih := kd_val x L
    unfold kd at ih ⊢
    rw [List.map_cons]
    unfold find
    by_cases e : l.1 = x
    · rw [if_pos e, valV_pos (p := ((Sum.inr l.1 : Key), V.str l.2.1)) (by rw [e])]
      rfl
    · rw [if_neg e, valV_neg (p := ((Sum.inr l.1 : Key), V.str l.2.1)) (fun z => e (Sum.inr.inj z)), ih]
theorem kd_merge : ∀ (M L : List Ln), ((L ++ M).map (·.1)).Nodup → mergeK (kd L) (kd M) = kd (L ++ M)
  | [], L, _ => by
    rw [List.append_nil]
    rfl
  | m :: M, L, h => by
    have e : mergeK (kd L) (kd (m :: M)) = mergeK (putK (kd L) (Sum.inr m.1) (.str m.2.1)) (kd M) := rfl
    have hn : find L m.1 = none := find_none.mpr fun z => by
      rw [List.map_append, List.map_cons, List.nodup_append] at h
      exact h.2.2 _ z _ List.mem_cons_self rfl
    rw [e, putK_new _ (by rw [kd_val, hn]; rfl)]
    have e2 : kd L ++ [((Sum.inr m.1 : Key), V.str m.2.1)] = kd (L ++ [m]) := by
      unfold kd
      rw [List.map_append]
      rfl
    rw [e2, kd_merge M (L ++ [m]) (by rw [List.append_assoc]; exact h), List.append_assoc]
    rfl
/-- names of these signs alone -/
def wfn (L : List Ln) : G → Bool
  | .s _ => true
  | .t (.s h :: ps) => (find L h).isSome && (ps.map (wfn L)).all id
  | _ => false
theorem wfn_t (L : List Ln) (h : Str) (ps : List G) : wfn L (.t (.s h :: ps)) = ((find L h).isSome && ps.all (wfn L)) := by
  rw [wfn, List.all_map]
  rfl
theorem wfn_shp {L : List Ln} (n : Nat) : ∀ g, dp g ≤ n → wfn L g = true → shp g = true := by
  induction n with
  | zero =>
    intro g h
    have := dp_pos g
    omega
  | succ n ih =>
    intro g hd hw
    cases g with
    | s x => simp [shp]
    | o => simp [wfn] at hw
    | l => simp [wfn] at hw
    | t gs =>
      cases gs with
      | nil => simp [wfn] at hw
      | cons h ps =>
        cases h with
        | s x =>
          rw [wfn_t, Bool.and_eq_true, List.all_eq_true] at hw
          exact shp_mk fun p hp => ih p (dp_mem hd (List.mem_cons_of_mem _ hp)) (hw.2 p hp)
        | _ => simp [wfn] at hw
theorem stands_wfn {L : List Ln} (n : Nat) : ∀ g, dp g ≤ n → stands L g = true → wfn L g = true := by
  induction n with
  | zero =>
    intro g h
    have := dp_pos g
    omega
  | succ n ih =>
    intro g hd hs
    cases g with
    | s x => simp [wfn]
    | o => simp [stands] at hs
    | l => simp [stands] at hs
    | t gs =>
      cases gs with
      | nil => simp [stands] at hs
      | cons h ps =>
        obtain ⟨x, l, rfl, hf, hp⟩ := stands_head hs
        rw [wfn_t, hf, List.all_eq_true.mpr fun p hm => ih p (dp_mem hd (List.mem_cons_of_mem _ hm)) (hp p hm)]
        rfl
theorem wfn_laid {L : List Ln} (n : Nat) : ∀ g, dp g ≤ n → wfn L g = true → wfn L (laid L g) = true := by
  induction n with
  | zero =>
    intro g h
    have := dp_pos g
    omega
  | succ n ih =>
    intro g hd hw
    rcases shp_cases (wfn_shp _ g hd hw) with ⟨x, rfl⟩ | ⟨x, ps, rfl, hp⟩
    · rw [laid_s]
      exact hw
    · rw [wfn_t, Bool.and_eq_true, List.all_eq_true] at hw
      rw [laid_t, wfn_t, hw.1, Bool.true_and, List.all_eq_true]
      intro q hq
      rcases arr_mem hq with h1 | ⟨rs, h1, h2⟩
      · obtain ⟨p, hm, rfl⟩ := List.mem_map.mp h1
        exact ih p (dp_mem hd (List.mem_cons_of_mem _ hm)) (hw.2 p hm)
      · obtain ⟨p, hm, e⟩ := List.mem_map.mp h1
        have z := ih p (dp_mem hd (List.mem_cons_of_mem _ hm)) (hw.2 p hm)
        rw [e, wfn_t, Bool.and_eq_true, List.all_eq_true] at z
        exact z.2 q h2
/-- a def with its code object, its promise as ever -/
theorem FunC.okC {P : Program} {w : World} {K : PySem.W.Frag} {mg : Str → Option Value} {base : Heap} {x : Str} {st : Stmt} {f c : Addr} {fd : FuncData} {N ps : List Str} {k : Nat} {sp : Sp} (F : FunC K x st f fd c) (S : FnScope N ps (defScope st)) (len : ∀ vs H Q E, sp vs H Q E → vs.length = ps.length)
    (hbody : ∀ (A : Around) (outer : List Env) (s : Shared) (H : Hp) (vs : List V) (Q : VK) (E : XK), Room k (A.deeper (envOfC x (defScope st) s.heap.objs.size f (.ref c))) → sp vs H Q E →
      ∃ t, PSs (cxOf C8.CX0 P w K mg base N x (defScope st) f (.ref c) A outer s H E).nox (defBody st) t ∧ t { nx := fun _ H' => Q .non H', rt := Q } (L2.start N vs) H) : FnOk P w K mg base C8.CX0 (k + 1) f fd ps sp := by
  obtain ⟨oc, od, kV, doc, pm, an, ct, osl, rfl, lk, hcd⟩ := F.ex
  refine ⟨len, fun A outer s H args us vs Q E hr e0 hb r hsp => LamX.run_ofS lk hcd S hr e0 hb r (len _ _ _ _ hsp) fun hr' => ?_⟩
  obtain ⟨t, h, q⟩ := hbody A outer s H vs Q E hr' hsp
  exact ⟨t, h.nox, q⟩
def qLaid : Str := Str.ofString "_law_laid.<locals>.<lambda>"
def spKinds (K : PySem.W.Frag) : Sp := fun vs H Q _ => ∃ (a : Addr) (L : List Ln), vs = [.ref a] ∧ Lst K H a L ∧ LOk L ∧ (L.map (·.1)).Nodup ∧ ∀ H' p, Same H H' → H' p = some (.dK (kd L)) → Q (.ref p) H'
def spLLaid (K : PySem.W.Frag) (TT : List (Addr × Str)) (n : Nat) : Sp := fun vs H Q _ => ∃ (a : Addr) (L : List Ln) (v : V) (g : G), vs = [.ref a, v] ∧ H a = some (.dK (kd L)) ∧ LOk L ∧ In K H v g ∧ wfn L g = true ∧ fine g = true ∧ dp g ≤ n ∧ sz g ≤ 2000 ∧ LamX.Tabs TT H ∧
  ∀ H' v', Ext H H' → LamX.Tabs TT H' → In K H' v' (laid L g) → Q v' H'
theorem tabs_offL {T : List (Addr × Str)} {H : Hp} {l : Addr} {zs : List V} {o : HO} (h : LamX.Tabs T H) (e : H l = some (.lst zs)) : LamX.Tabs T (upd H l o) := fun p hp => by
  obtain ⟨ps, h1, h2, h3⟩ := h p hp
  have off : ∀ {b : Addr} {u : HO}, H b = some u → (∀ xs, u ≠ .lst xs) → upd H l o b = some u := fun {b u} q n => by
    rw [upd_ne (fun z => by rw [z, e] at q; exact n _ (Option.some.inj q).symm)]
    exact q
  refine ⟨ps, off h1 (by intro _ z; cases z), h2, fun pos cv hc => ?_⟩
  obtain ⟨cc, rfl, q⟩ := h3 pos cv hc
  exact ⟨cc, rfl, off q (by intro _ z; cases z)⟩
section
variable {P : Program} {w : World} {K : PySem.W.Frag} {mg : Str → Option Value} {base : Heap}
theorem scLKinds : FnScope ["_law_rows", "_law_name", "_law_kind", "_law_many"] ["_law_rows"] (defScope sLKinds) := ⟨rfl, rfl, rfl, by decide +kernel, rfl, by decide +kernel, by decide +kernel⟩
theorem ok_lkinds {f : Addr} {fd : FuncData} (F : Fun K "_law_kinds" "_law_kinds" sLKinds f fd) (T : Ct mg) : FnOk P w K mg base C8.CX0 1 f fd ["_law_rows"] (spKinds K) := by
  refine F.ok scLKinds (fun vs H Q E h => ?_) (fun cdv A outer s H vs Q E hr h => ?_)
  · obtain ⟨a, L, rfl, _⟩ := h
    rfl
  · obtain ⟨a, L, rfl, ⟨xs, hx, hd⟩, ok, hn, k⟩ := h
    refine ⟨_, pss_one (ps_ret (pe_callTy (call_dictP rfl) (by rfl) T.dict boot_dict (pa_cons (pe_lc (own := [("_law_name", 1), ("_law_kind", 2), ("_law_many", 3)]) (g := gTup K 3 (gCons (gName 1) (gCons (gName 2) (gCons (gName 3) gNil)))) (tt := tYes) rfl scLKinds.nd (pi_list (pv 0)) (blkOk_by (N := ["_law_rows", "_law_name", "_law_kind", "_law_many"]) (sc := defScope sLKinds) (by decide +kernel))
      (fun _ _ _ _ _ => pg_tup rfl (pgs_cons (pg_name (i := 1) scLKinds.nd rfl (Or.inl rfl)) (pgs_cons (pg_name (i := 2) scLKinds.nd rfl (Or.inl rfl)) (pgs_cons (pg_name (i := 3) scLKinds.nd rfl (Or.inl rfl)) pgs_nil)))) (fun _ _ _ _ _ => pts_nil) (fun _ _ _ _ _ => pe_tup (pa_cons (pv 1) (pa_cons (pv 2) pa_nil)))) pa_nil))), ?_⟩
    have hl : xs.length = L.length := by
      have := dpAll_len hd
      rw [List.length_map] at this
      exact this
    have hL := ok.len
    refine ⟨_, rfl, a, rfl, ⟨_, hx⟩, fun D hD => lc_list (K := K) (a := a) (xs := xs) (fun i H' => Same H H' ∧ ∃ ps : List Addr, ps.length = i ∧ H' D = some (.lst (ps.map V.ref)) ∧ Paired (fun p (kv : Key × V) => SqT K H' p [kV kv.1, kv.2]) ps (kd (L.take i)))
      ⟨Same.new (Same.refl H) hD, [], rfl, upd_same, .nil⟩ (fun i H' _ ⟨s1, _⟩ => s1.seq hx) ?_ ?_⟩
    · rintro i x H' hi ⟨s1, ps, lp, eD, hp⟩
      obtain ⟨l, hli, hld⟩ := dpr_at hd hi
      obtain ⟨b, rfl, hb⟩ := row_at hld
      have hil := (List.getElem?_eq_some_iff.mp hli).1
      refine ⟨b, _, rfl, sqt_same s1 hb, rfl, _, _, rfl, _, _, rfl, _, _, rfl, rfl, rfl, _, rfl, _, rfl, (by show 2 ≤ sizeLine; decide), fun q hq => ?_⟩
      have nD : D ≠ q := ne_of_none eD hq
      have sq := Same.new (o := .tup [.str l.1, .str l.2.1]) (Same.refl H') hq
      refine ⟨_, sq _ _ eD, by rw [List.length_map, lp, sizeLine_eq]; omega, ?_, ps ++ [q], by rw [List.length_append, lp]; rfl, by rw [upd_same, List.map_append]; rfl, ?_⟩
      · exact fun c o e => by
          rw [upd_ne (ne_of_none e hD)]
          exact sq _ _ (s1 c o e)
      · have off : TupK H' (upd (upd H' q (.tup [.str l.1, .str l.2.1])) D (.lst (ps.map V.ref ++ [.ref q]))) := (TupK.of (Ext.of sq)).off (sq _ _ eD)
        have e : kd (L.take (i + 1)) = kd (L.take i) ++ [((Sum.inr l.1 : Key), V.str l.2.1)] := by
          unfold kd
          rw [take_snoc hli, List.map_append]
          rfl
        rw [e]
        have hlast : SqT K (upd (upd H' q (.tup [.str l.1, .str l.2.1])) D (.lst (ps.map V.ref ++ [.ref q]))) q [kV (Sum.inr l.1), V.str l.2.1] := SqT.of (by rw [upd_ne nD.symm, upd_same]; rfl)
        have app : ∀ {ps' : List Addr} {kvs' : List (Key × V)}, Paired (fun p (kv : Key × V) => SqT K H' p [kV kv.1, kv.2]) ps' kvs' → Paired (fun p (kv : Key × V) => SqT K (upd (upd H' q (.tup [.str l.1, .str l.2.1])) D (.lst (ps.map V.ref ++ [.ref q]))) p [kV kv.1, kv.2]) (ps' ++ [q]) (kvs' ++ [((Sum.inr l.1 : Key), V.str l.2.1)]) := by
          intro ps' kvs' h
          induction h with
          | nil => exact .cons hlast .nil
          | cons h _ ih => exact .cons (off.sqt h) ih
        exact app hp
    · rintro H' ⟨s1, ps, lp, eD, hp⟩
      rw [hl, List.take_length] at hp
      refine ⟨D, ps, kd L, rfl, SqL.of eD, hp, fun p hp2 => ?_⟩
      have e : mergeK [] (kd L) = kd L := by
        have := kd_merge L [] (by simpa using hn)
        exact this
      rw [e]
      exact k _ p (Same.new s1 hp2) upd_same
end
end K1
set_option Elab.async false
set_option linter.all false
set_option maxRecDepth 100000
set_option maxHeartbeats 2000000
namespace K1
open PySem PySem.Spec PyProof.Rows L2
open PySem.W (EachIs)
theorem tabs_new {T : List (Addr × Str)} {H : Hp} {p : Addr} {o : HO} (h : LamX.Tabs T H) (hp : H p = none) : LamX.Tabs T (upd H p o) := h.ext (Same.new (Same.refl H) hp)
theorem Ext.new {H H1 : Hp} {p : Addr} {o : HO} (e : Ext H H1) (hp : H1 p = none) : Ext H (upd H1 p o) := e.trans (Ext.of (Same.new (Same.refl H1) hp))
abbrev nLaid : List Str := ["_law_kinds_here", "_law_draft_here", "_law_inner", "_law_part", "_law_flat", "_law_opens"]
section
variable {P : Program} {w : World} {K : PySem.W.Frag} {mg : Str → Option Value} {base : Heap}
theorem scLLaid : FnScope nLaid ["_law_kinds_here", "_law_draft_here"] (defScope sLLaid) := ⟨rfl, rfl, rfl, by decide +kernel, rfl, by decide +kernel, by decide +kernel⟩
theorem ok_llaid {f cc PL : Addr} {fd : FuncData} {TT : List (Addr × Str)} {n N m q : Nat} (F : FunC K "_law_laid" sLLaid f fd cc) (IH : Df P w K mg base C8.CX0 "_law_laid" m ["_law_kinds_here", "_law_draft_here"] (spLLaid K TT n)) (DT : Df P w K mg base C8.CX0 "_law_text" q ["_law_tree"] (sp1 K N fun g => .str (text g))) (T : Ct mg) (hN : n ≤ N) (hN2 : N ≤ 2000) (hm : q + 3 ≤ m)
    (TB : LamX.TabB base mg cc PL) (hT : (PL, qLaid) ∈ TT) (hTu : ∀ p ∈ TT, p.1 = PL → p.2 = qLaid) : FnOk P w K mg base C8.CX0 (m + 1) f fd ["_law_kinds_here", "_law_draft_here"] (spLLaid K TT (n + 1)) := by
  refine F.okC scLLaid (fun vs H Q E h => ?_) (fun A outer s H vs Q E hr h => ?_)
  · obtain ⟨a, L, v, g, rfl, _⟩ := h
    rfl
  · obtain ⟨ka, L, v, g, rfl, hka, ok, hin, hw, hf, hd, hz, hTab, k⟩ := h
    have hu' := hu_of hr
    refine ⟨_, pss_cons (ps_if (pt_val (pe_callB call_isi (by rfl) T.isi boot_isinstance (pa_cons (pv 1) (pa_cons (pe_bltn (v := .ty "str") (by rfl) T.str boot_str rfl) pa_nil)))) (pss_one (ps_ret (pv 1))) pss_nil)
      (pss_cons (ps_setLc (i := 2) (own := [("_law_part", 3)]) (g := gName 3) (tt := tYes) rfl scLLaid.nd rfl rfl (sw_true rfl rfl rfl (by decide +kernel)) (pi_tup (pe_slice sl_tup (pv 1) (po_some pe_int) po_none)) (blkOk_by (N := nLaid) (sc := defScope sLLaid) (by decide +kernel)) (fun _ _ _ _ _ => pg_name (i := 3) scLLaid.nd rfl (Or.inl rfl)) (fun _ _ _ _ _ => pts_nil)
        (fun _ _ _ _ _ => pe_df IH hr pass0 (pa_cons (pv 0) (pa_cons (pv 3) pa_nil)) (Nat.le_refl _)))
      (C8.pss_cut (ps_if (pt_cmpR (op_inT (units65 hr)) (pe_dget hu' (pv 0) (pe_ix ix_tup (pv 1) pe_int (fun _ _ => rfl)) (fun _ _ => rfl)) (pe_tup (pa_cons pe_str (pa_cons pe_str pa_nil))) (by rfl))
        (pss_cons (ps_set (i := 4) scLLaid.nd rfl (Or.inl rfl) (pe_lst pa_nil))
        (pss_cons (ps_for PassesOwn.never rfl (pi_list (pv 2)) (pg_name (i := 3) scLLaid.nd rfl (Or.inl rfl))
          (pss_cons (ps_set (i := 5) scLLaid.nd rfl (Or.inl rfl) (pe_and (pe_not (pe_callB call_isi (by rfl) T.isi boot_isinstance (pa_cons (pv 3) (pa_cons (pe_bltn (v := .ty "str") (by rfl) T.str boot_str rfl) pa_nil)))) (pe_one (pe_cmpR op_eq (pe_ix ix_tup (pv 3) pe_int (fun _ _ => rfl)) (pe_ix ix_tup (pv 1) pe_int (fun _ _ => rfl)) (nomark _)))))
          (pss_one (ps_set (i := 4) scLLaid.nd rfl (Or.inl rfl) (pe_op op_cat (pv 4) (pe_ifExp (pt_val (pv 5)) (pe_callTy call_list_of (by rfl) T.list boot_list (pa_cons (pe_slice sl_tup (pv 3) (po_some pe_int) po_none) pa_nil)) (pe_lst (pa_cons (pv 3) pa_nil))))))))
        (pss_one (ps_set (i := 2) scLLaid.nd rfl (Or.inl rfl) (pv 4))))) pss_nil)
      (C8.pss_cut (ps_if (pt_cmpR (op_inT (units65 hr)) (pe_dget hu' (pv 0) (pe_ix ix_tup (pv 1) pe_int (fun _ _ => rfl)) (fun _ _ => rfl)) (pe_tup (pa_cons pe_str (pa_cons pe_str pa_nil))) (by rfl))
        (pss_one (ps_set (i := 2) scLLaid.nd rfl (Or.inl rfl) (SrtF.pe_sortL (T := G) (a := "_law_part") (k := q) (tb := tCall (sp1 K N fun g => .str (text g)) [] C8.E0 (tCons (tVar 0) tNil)) (by rfl) T.sorted (pa_cons (pv 2) pa_nil) TB rfl hT hTu (hr.mono hm) rfl
            ⟨by rfl, by rfl, by rfl, by decide +kernel, by rfl, by decide +kernel, by decide +kernel⟩ rfl rfl (fun _ _ _ _ _ _ => by rfl)
            (fun A' outer' s' H' f' c' hr' => pe_df DT hr' pass0 (pa_cons (pe_var (i := 0) rfl (.inl rfl)) pa_nil) (Nat.le_refl _))))) pss_nil)
      (pss_one (ps_ret (pe_op op_catT (pe_tup (pa_cons (pe_ix ix_tup (pv 1) pe_int (fun _ _ => rfl)) pa_nil)) (pe_callTy call_tuple_of (by rfl) T.tuple boot_tuple (pa_cons (pv 2) pa_nil)))))))), ?_⟩
    obtain ⟨d, t1, t2⟩ := isi_str hin
    refine ⟨_, rfl, _, _, _, _, _, rfl, .ty "str", t1, t2, _, rfl, ?_⟩
    have hs := wfn_shp (dp g) g (Nat.le_refl _) hw
    rcases shp_cases hs with ⟨x, rfl⟩ | ⟨y, ps, rfl, hp⟩
    · exact iteT ⟨v, rfl, k H v (Ext.refl H) hTab (by rw [laid_s]; exact hin)⟩
    · refine iteF ?_
      obtain ⟨a, xs, rfl, hx, hg⟩ := hin.tup
      obtain ⟨v0, e0, h0⟩ := hg.get (i := 0) rfl
      obtain rfl := h0.str
      have hw' := hw
      rw [wfn_t, Bool.and_eq_true, List.all_eq_true] at hw'
      obtain ⟨l, hfi⟩ := Option.isSome_iff_exists.mp hw'.1
      obtain ⟨m1, m2⟩ := find_mem hfi
      obtain ⟨sk, _, _, _⟩ := kinds_ok _ (ok.kd l m1)
      have hlen := hg.len
      have hsl := sz_len (.s y :: ps)
      refine ⟨_, rfl, _, rfl, a, xs, rfl, hx, whole_1 (ne_nil hg), fun q0 hq => ⟨q0, rfl, ⟨_, SqT.of upd_same⟩, fun D hD => ?_⟩⟩
      have sq := Same.new (o := .tup (cutV xs (some 1) none)) (Same.refl H) hq
      have hgd : InL K (upd H q0 (.tup (cutV xs (some 1) none))) (cutV xs (some 1) none) ps := by
        have z := (hg.drop 1).same sq
        rw [← cut_1] at z
        exact z
      have hPl := parts_of (L := L) hp hf hd hz
      refine lc_in (K := K) (gs := ps) (J := LamX.Tabs TT) (fun H y g => wfn L g = true → fine g = true → In K H y (laid L g)) hD (SqT.of upd_same) hgd ?_ (fun y g H H' h tk h1 h2 => in_tk tk _ _ (laid_less (dp g) g (Nat.le_refl _) (wfn_shp _ g (Nat.le_refl _) h1) h2).shp (h h1 h2)) (fun _ => rfl) (fun H ys ys' h e => tabs_offL h e) (tabs_new (tabs_new hTab hq) hD) ?_ ?_
      · rw [hgd.len]
        simp only [List.length_cons] at hsl
        omega
      · intro x g H' hgm hxin e hjj Q' q'
        have hgm' : g ∈ .s y :: ps := List.mem_cons_of_mem _ hgm
        exact ⟨_, rfl, x, rfl, ka, L, x, g, rfl, e _ _ (sq _ _ hka) (by intro _ z; cases z), ok, hxin, hw'.2 g hgm, fine_mem hf hgm', dp_mem hd hgm', by have := sz_mem hgm'; omega, hjj, fun H'' v' e'' t'' hv' => q' _ _ e'' t'' fun _ _ => hv'⟩
      · intro H1 ys e hj1 eD hr'
        have sA : Ext H H1 := (Ext.of sq).trans e
        have hys : InL K H1 ys (ps.map (laid L)) := each_in (each_fine (P := fun g => wfn L g = true) (R := fun g => fine g = true) hr' hw'.2 fun g hg => fine_mem hf (List.mem_cons_of_mem _ hg))
        have dget : ∀ {H' : Hp}, Ext H H' → DGet H' ka (.str y) (some (.str l.2.1)) := fun {H'} e' => by
          have e2 : valV (kd L) (Sum.inr y : Key) = some (.str l.2.1) := by rw [kd_val, hfi]; rfl
          rw [← e2]
          exact DGet.k (k := Sum.inr y) (e' _ _ hka (by intro _ z; cases z))
        refine ⟨fun σ' H2 => ∃ (l2 : Addr) (us : List V) (v3 v4 v5 : Option V), σ' = [some (.ref ka), some (.ref a), some (.ref l2), v3, v4, v5] ∧ Ext H H2 ∧ LamX.Tabs TT H2 ∧ SqL K H2 l2 us ∧ InL K H2 us (opn l.2.1 y (ps.map (laid L))), ?_, ?_⟩
        · refine ⟨_, rfl, _, rfl, a, xs, 0, _, rfl, rfl, sA.sqt hx, atI_nat (j := 0) e0, ka, _, rfl, dget sA, (by show 2 ≤ sizeLine; decide), fun r hr0 => ⟨.str l.2.1, [.str "row", .str "heap"], .str _, .tup (SqT.of upd_same) (.cons (.str _) (.cons (.str _) .nil)), sk, by decide +kernel, _, rfl, ?_⟩⟩
          have s1 := Same.new (o := .tup [.str "row", .str "heap"]) (Same.refl H1) hr0
          refine ite2 (fun h2 => ?_) (fun h2 => ?_)
          · have h2' : rowish l.2.1 = true := h2
            refine ⟨(by show 0 ≤ sizeLine; decide), fun F0 hF0 => ?_⟩
            have s2 := Same.new (o := .lst []) s1 hF0
            have eD2 := s2 _ _ eD
            refine ⟨_, rfl, D, rfl, ⟨_, SqL.of eD2⟩, for_list (K := K) (a := D) (xs := ys) (fun i σ' H' => ∃ (Fi : Addr) (zs : List V) (v3 v5 : Option V), σ' = [some (.ref ka), some (.ref a), some (.ref D), v3, some (.ref Fi), v5] ∧ Same H1 H' ∧ H' Fi = some (.lst zs) ∧ InL K H' zs (flat y ((ps.map (laid L)).take i)))
              ⟨F0, [], none, none, rfl, s2, upd_same, by simp only [List.take_zero]; exact .nil⟩ (fun i σ' H' _ ⟨_, _, _, _, _, sm, _⟩ => SqL.of (sm _ _ eD)) ?_ ?_⟩
            · rintro i z σ' H' hi ⟨Fi, zs, v3, v5, rfl, sm, eF, hzs⟩
              obtain ⟨g, hgi, hzin⟩ := hys.at hi
              have hgm := List.mem_of_getElem? hgi
              have hin' := hzin.same sm
              have hlz := hzs.len
              have hfl := flat_len (x := y) (hPl.take i)
              have hfl2 := flat_len (x := y) (hPl.take (i + 1))
              rw [take_snoc hgi, flat_snoc, List.length_append] at hfl2
              have hx' := (sA.trans (Ext.of sm)).sqt hx
              obtain ⟨d', t1', t2'⟩ := isi_str hin'
              -- what is put behind
              have put : ∀ (w5 : V) (H2 : Hp) (b : Addr) (us : List V), Same H' H2 → H2 b = some (.lst us) → InL K H2 us (oneP y g) → ∃ l b' xs' zs', V.ref Fi = V.ref l ∧ V.ref b = V.ref b' ∧ H2 l = some (.lst xs') ∧ H2 b' = some (.lst zs') ∧ xs'.length + zs'.length ≤ sizeLine ∧ ∀ p, H2 p = none →
                  ∃ (Fi : Addr) (zs : List V) (v3 v5 : Option V), [some (V.ref ka), some (V.ref a), some (V.ref D), some z, some (V.ref p), some w5] = [some (.ref ka), some (.ref a), some (.ref D), v3, some (.ref Fi), v5] ∧ Same H1 (upd H2 p (.lst (xs' ++ zs'))) ∧ (upd H2 p (.lst (xs' ++ zs'))) Fi = some (.lst zs) ∧ InL K (upd H2 p (.lst (xs' ++ zs'))) zs (flat y ((ps.map (laid L)).take (i + 1))) := by
                intro w5 H2 b us s3 eb hus
                have hul := hus.len
                refine ⟨Fi, b, zs, us, rfl, rfl, s3 _ _ eF, eb, by rw [hlz, hul, sizeLine_eq]; omega, fun p hp => ⟨p, zs ++ us, some z, some w5, rfl, Same.new (sm.trans s3) hp, upd_same, ?_⟩⟩
                rw [take_snoc hgi, flat_snoc]
                exact ((hzs.same s3).app hus).same (Same.new (Same.refl H2) hp)
              refine ⟨_, rfl, _, _, _, _, _, rfl, .ty "str", t1', t2', _, rfl, _, rfl, ?_⟩
              have one : ∀ (w5 : V), oneP y g = [g] → ∀ b, H' b = none → ∃ l b' xs' zs', V.ref Fi = V.ref l ∧ V.ref b = V.ref b' ∧ (upd H' b (.lst [z])) l = some (.lst xs') ∧ (upd H' b (.lst [z])) b' = some (.lst zs') ∧ xs'.length + zs'.length ≤ sizeLine ∧ ∀ p, (upd H' b (.lst [z])) p = none →
                  ∃ (Fi : Addr) (zs : List V) (v3 v5 : Option V), [some (V.ref ka), some (V.ref a), some (V.ref D), some z, some (V.ref p), some w5] = [some (.ref ka), some (.ref a), some (.ref D), v3, some (.ref Fi), v5] ∧ Same H1 (upd (upd H' b (.lst [z])) p (.lst (xs' ++ zs'))) ∧ (upd (upd H' b (.lst [z])) p (.lst (xs' ++ zs'))) Fi = some (.lst zs) ∧ InL K (upd (upd H' b (.lst [z])) p (.lst (xs' ++ zs'))) zs (flat y ((ps.map (laid L)).take (i + 1))) := fun w5 e1 b hb => by
                have s3 := Same.new (o := .lst [z]) (Same.refl H') hb
                exact put w5 _ b [z] s3 upd_same (by rw [e1]; exact .cons (hin'.same s3) .nil)
              rcases shp_cases (hPl.shp g hgm) with ⟨x2, rfl⟩ | ⟨y2, qs, rfl, hqs⟩
              · refine iteF ⟨_, rfl, _, rfl, _, rfl, ?_⟩
                exact iteF ⟨_, rfl, (by show 1 ≤ sizeLine; decide), fun b hb => one _ rfl b hb⟩
              · refine iteT ?_
                obtain ⟨b2, us2, rfl, hb2, hgb2⟩ := hin'.tup
                obtain ⟨v2, e2, h2v⟩ := hgb2.get (i := 0) rfl
                obtain rfl := h2v.str
                refine ⟨_, rfl, b2, us2, 0, _, rfl, rfl, hb2, atI_nat (j := 0) e2, _, rfl, a, xs, 0, _, rfl, rfl, hx', atI_nat (j := 0) e0, rfl, _, rfl, _, rfl, _, rfl, ?_⟩
                refine ite2 (fun h3 => ?_) (fun h3 => ?_)
                · have h3' : y2 = y := V.str.inj (of_decide_eq_true h3)
                  subst h3'
                  refine ⟨_, rfl, _, rfl, b2, us2, rfl, hb2, whole_1 (ne_nil hgb2), fun r2 hr2 => ⟨r2, _, rfl, .inr (SqT.of upd_same), fun b hb => ?_⟩⟩
                  have s3 := Same.new (o := .tup (cutV us2 (some 1) none)) (Same.refl H') hr2
                  have s4 := Same.new (o := .lst (cutV us2 (some 1) none)) s3 hb
                  have e1 : oneP y2 (.t (.s y2 :: qs)) = qs := by simp [oneP]
                  refine put _ _ b _ s4 upd_same ?_
                  have z := (hgb2.drop 1).same s4
                  rw [← cut_1] at z
                  rw [e1]
                  exact z
                · have h3' : y2 ≠ y := fun z => h3 (by rw [z]; exact decide_eq_true rfl)
                  exact ⟨_, rfl, (by show 1 ≤ sizeLine; decide), fun b hb => one _ (by simp [oneP, h3']) b hb⟩
            · rintro σ' H' ⟨Fi, zs, v3, v5, rfl, sm, eF, hzs⟩
              rw [hys.len, List.take_length] at hzs
              refine ⟨_, rfl, Fi, zs, _, _, _, rfl, sA.trans (Ext.of sm), hj1.ext sm, SqL.of eF, ?_⟩
              unfold opn
              rw [if_pos h2']
              exact hzs
          · refine ⟨D, ys, _, _, _, rfl, sA.trans (Ext.of s1), hj1.ext s1, SqL.of (s1 _ _ eD), ?_⟩
            unfold opn
            rw [if_neg (show ¬ rowish l.2.1 = true from h2)]
            exact hys.same s1
        · rintro σ' H2 ⟨l2, us, v3, v4, v5, rfl, sB, hT2, hl2, hus⟩
          have hP2 := hPl.opn l.2.1 y
          refine ⟨fun σ' H3 => ∃ (l3 : Addr) (us : List V) (v3 v4 v5 : Option V), σ' = [some (.ref ka), some (.ref a), some (.ref l3), v3, v4, v5] ∧ Ext H H3 ∧ LamX.Tabs TT H3 ∧ SqL K H3 l3 us ∧ InL K H3 us (arr l.2.1 y (ps.map (laid L))), ?_, ?_⟩
          · refine ⟨_, rfl, _, rfl, a, xs, 0, _, rfl, rfl, sB.sqt hx, atI_nat (j := 0) e0, ka, _, rfl, dget sB, (by show 2 ≤ sizeLine; decide), fun r hr0 => ⟨.str l.2.1, [.str "pair", .str "heap"], .str _, .tup (SqT.of upd_same) (.cons (.str _) (.cons (.str _) .nil)), sk, by decide +kernel, _, rfl, ?_⟩⟩
            have s1 := Same.new (o := .tup [.str "pair", .str "heap"]) (Same.refl H2) hr0
            refine ite2 (fun h2 => ?_) (fun h2 => ?_)
            · have h2' : loose l.2.1 = true := h2
              refine ⟨_, rfl, hT2.ext s1, fun H3 eN T3 => ?_⟩
              have eN' : Ext H2 H3 := (Ext.of s1).trans eN
              obtain ⟨⟨z1, z2⟩, z3⟩ := zip_in (hus.ext eN')
              refine ⟨l2, us.zip (opn l.2.1 y (ps.map (laid L))), text, rfl, by rw [z1]; exact eN'.sql hl2, fun pr hpr H' sm => ?_, fun p3 H' sm hp3 => ?_⟩
              · obtain ⟨a1, a2⟩ := z3 pr hpr
                exact ⟨_, rfl, _, _, rfl, a1.same sm, hP2.shp _ a2, hP2.fine _ a2, Nat.le_trans (hP2.dp _ a2) hN, hP2.one a2, fun H'' s'' => ⟨rfl, s''⟩⟩
              · have sN := Same.new (o := .lst (((us.zip (opn l.2.1 y (ps.map (laid L)))).mergeSort (SrtF.leK fun p => text p.2)).map Prod.fst)) sm hp3
                refine ⟨p3, _, _, _, _, rfl, (sB.trans eN').trans (Ext.of sN), T3.ext sN, SqL.of upd_same, ?_⟩
                unfold arr
                rw [if_pos h2']
                have := sort_pairs (K := K) fun pr hpr => ((z3 pr hpr).1.same sN)
                rw [z2] at this
                exact this
            · refine ⟨l2, us, _, _, _, rfl, sB.trans (Ext.of s1), hT2.ext s1, s1.seq hl2, ?_⟩
              unfold arr
              rw [if_neg (show ¬ loose l.2.1 = true from h2)]
              exact hus.same s1
          · rintro σ' H3 ⟨l3, us3, w3, w4, w5, rfl, sC, hT3, hl3, hus3⟩
            have hul := hus3.len
            have hal : (arr l.2.1 y (ps.map (laid L))).length ≤ 2000 := by
              rw [(arr_perm l.2.1 y (ps.map (laid L))).length_eq]
              exact hP2.len
            refine ⟨_, rfl, a, xs, 0, _, rfl, rfl, sC.sqt hx, atI_nat (j := 0) e0, (by show 1 ≤ sizeLine; decide), fun t ht => ?_⟩
            have s1 := Same.new (o := .tup [.str y]) (Same.refl H3) ht
            refine ⟨_, rfl, l3, us3, rfl, .inl ⟨s1.seq hl3, fun u hu => ?_⟩⟩
            have s2 := Same.new (o := .tup us3) s1 hu
            have nt : t ≠ u := fun z => by rw [← z, upd_same] at hu; cases hu
            have fin : ∀ (H4 : Hp) (v : V), Same H3 H4 → In K H4 v (.t (.s y :: arr l.2.1 y (ps.map (laid L)))) → Q v H4 := fun H4 v sm hv => k H4 v (sC.trans (Ext.of sm)) (hT3.ext sm) (by rw [laid_t, kindOf_find hfi]; exact hv)
            refine ⟨t, u, [.str y], us3, rfl, rfl, SqT.of (by rw [upd_ne nt, upd_same]), SqT.of upd_same, by simp, by simp only [List.length_cons, List.length_nil]; rw [sizeLine_eq]; omega, fun e => ?_, fun e p hp => ?_⟩
            · refine fin _ _ s2 (.t (xs := [.str y]) (SqT.of (by rw [upd_ne nt, upd_same])) ?_)
              have ea : arr l.2.1 y (ps.map (laid L)) = [] := List.eq_nil_of_length_eq_zero (by rw [← hul, e]; rfl)
              rw [ea]
              exact .cons (.s y) .nil
            · exact fin _ _ (Same.new s2 hp) (.t (SqT.of upd_same) (.cons (.s y) (hus3.same (Same.new s2 hp))))
end
end K1
set_option Elab.async false
set_option linter.all false
set_option maxRecDepth 100000
set_option maxHeartbeats 2000000
namespace K1
open PySem PySem.Spec PyProof.Rows L2
open PySem.W (EachIs)
def due (L : List Ln) (g : G) : Bool := stands L g && (decide (points g ≤ 80) && (decide (deep g ≤ 12) && few (laid L g)))
theorem few_wide (n : Nat) : ∀ g, dp g ≤ n → shp g = true → few g = decide (wide g ≤ 8) := by
  induction n with
  | zero =>
    intro g h
    have := dp_pos g
    omega
  | succ n ih =>
    intro g hd hs
    rcases shp_cases hs with ⟨x, rfl⟩ | ⟨x, ps, rfl, hp⟩
    · simp [few, wide]
    · rw [few_t, wide_t]
      have key : ps.all few = decide (maxl (ps.map wide) ≤ 8) := by
        rw [Bool.eq_iff_iff, List.all_eq_true, decide_eq_true_iff, maxl_le]
        constructor
        · intro h m hm
          obtain ⟨p, hpm, rfl⟩ := List.mem_map.mp hm
          have := h p hpm
          rw [ih p (dp_mem hd (List.mem_cons_of_mem _ hpm)) (hp p hpm), decide_eq_true_iff] at this
          exact this
        · intro h p hpm
          rw [ih p (dp_mem hd (List.mem_cons_of_mem _ hpm)) (hp p hpm), decide_eq_true_iff]
          exact h _ (List.mem_map.mpr ⟨p, hpm, rfl⟩)
      rw [key, Bool.eq_iff_iff, Bool.and_eq_true, decide_eq_true_iff, decide_eq_true_iff, decide_eq_true_iff, Nat.max_le]
      omega
theorem due_is {L : List Ln} {g : G} (hf : fine g = true) : due L g = lay0 L g := by
  unfold due lay0
  cases q : stands L g with
  | false => rfl
  | true =>
    obtain ⟨hs, hdd⟩ := stands_shp (dp g) g (Nat.le_refl _) q
    have hL := laid_less (L := L) (dp g) g (Nat.le_refl _) hs hf
    by_cases q1 : points g ≤ 80
    · by_cases q2 : deep g ≤ 12
      · rw [decide_eq_true q1, decide_eq_true q2, few_wide _ _ (Nat.le_refl _) hL.shp]
        have h1 := hL.pts
        have h2 := hL.deep
        unfold beyond
        rw [decide_eq_false (show ¬ 80 < points (laid L g) by omega), decide_eq_false (show ¬ 12 < deep (laid L g) by omega)]
        by_cases h3 : wide (laid L g) ≤ 8
        · rw [decide_eq_true h3, decide_eq_false (by omega)]
          rfl
        · rw [decide_eq_false h3, decide_eq_true (by omega)]
          rfl
      · rw [decide_eq_false q2, Bool.false_and, Bool.false_and]
    · rw [decide_eq_false q1, Bool.false_and, Bool.false_and]
def spLDraft (K : PySem.W.Frag) (TT : List (Addr × Str)) (n : Nat) : Sp := fun vs H Q _ => ∃ (a : Addr) (L : List Ln) (v : V) (g : G), vs = [.ref a, v] ∧ Lst K H a L ∧ LOk L ∧ (L.map (·.1)).Nodup ∧ In K H v g ∧ fine g = true ∧ dp g ≤ n ∧ sz g ≤ 2000 ∧ LamX.Tabs TT H ∧
  ∀ H', Ext H H' → LamX.Tabs TT H' → Q (.bl (due L g)) H'
section
variable {P : Program} {w : World} {K : PySem.W.Frag} {mg : Str → Option Value} {base : Heap}
end
end K1
set_option Elab.async false
set_option linter.all false
set_option maxRecDepth 100000
set_option maxHeartbeats 1000000
namespace K1
open PySem PySem.Spec PyProof.Rows L2
open PySem.W (EachIs)
abbrev oP : Str := Str.ofString "("
abbrev cP : Str := Str.ofString ")"
abbrev cm : Str := Str.ofString ","
def isMk (x : Str) : Bool := decide (x ∈ [oP, cP, cm])
def ch (c : Nat) : Str := ⟨#[c]⟩
theorem ch_l (c : Nat) : (ch c).cps.toList = [c] := rfl
def sepT : List (List Str) → List Str
  | [] => []
  | [a] => a
  | a :: b :: r => a ++ cm :: sepT (b :: r)
/-- the words of a thing's text -/
def toks : G → List Str
  | .s x => [x]
  | .t (h :: ps) => if ps.isEmpty then [hd h] else hd h :: oP :: (sepT (ps.map toks) ++ [cP])
  | _ => []
theorem toks_s (x : Str) : toks (.s x) = [x] := by simp only [toks]
theorem toks_1 (h : G) : toks (.t [h]) = [hd h] := by simp [toks]
theorem toks_t (h p : G) (ps : List G) : toks (.t (h :: p :: ps)) = hd h :: oP :: (sepT ((p :: ps).map toks) ++ [cP]) := by rw [toks]; simp
/-- built of names and gaps -/
def gok : G → Bool
  | .s x => gapB x
  | .t (.s h :: ps) => nameB h && (ps.map gok).all id
  | _ => false
theorem gok_t (h : Str) (ps : List G) : gok (.t (.s h :: ps)) = (nameB h && ps.all gok) := by
  rw [gok, List.all_map]
  rfl
def wst (s : List Str × Str) (c : Nat) : List Str × Str := if isMk (ch c) then (s.1 ++ (if s.2 = Str.empty then [ch c] else [s.2, ch c]), Str.empty) else (s.1, s.2 ++ ch c)
def wend (s : List Str × Str) : List Str := if s.2 = Str.empty then s.1 else s.1 ++ [s.2]
def wrun (x : Str) : List Str := wend (x.cps.toList.foldl wst ([], Str.empty))
theorem wst_mark {s : List Str × Str} {c : Nat} (h : isMk (ch c) = true) : wst s c = (wend s ++ [ch c], Str.empty) := by
  unfold wst wend
  rw [if_pos h]
  by_cases e : s.2 = Str.empty
  · rw [if_pos e, if_pos e]
  · rw [if_neg e, if_neg e, List.append_assoc]
    rfl
theorem isMk_cp {c : Nat} : isMk (ch c) = true ↔ c = 40 ∨ c = 41 ∨ c = 44 := by
  have e1 : oP = ch 40 := by decide +kernel
  have e2 : cP = ch 41 := by decide +kernel
  have e3 : cm = ch 44 := by decide +kernel
  have inj : ∀ {a b : Nat}, ch a = ch b ↔ a = b := fun {a b} => ⟨fun e => by
    have := congrArg (fun s : Str => s.cps.toList) e
    simpa [ch] using this, fun e => by rw [e]⟩
  unfold isMk
  rw [decide_eq_true_iff, e1, e2, e3]
  simp [inj]
theorem wst_name : ∀ (cs : List Nat) (ws : List Str) (w : Str), (∀ c ∈ cs, isMk (ch c) = false) → cs.foldl wst (ws, w) = (ws, ⟨(w.cps.toList ++ cs).toArray⟩)
  | [], ws, w, _ => by simp
  | c :: cs, ws, w, h => by
    rw [List.foldl_cons]
    have h1 : wst (ws, w) c = (ws, w ++ ch c) := by
      unfold wst
      rw [if_neg (by rw [h c List.mem_cons_self]; exact Bool.false_ne_true)]
    rw [h1, wst_name cs ws _ fun d hd => h d (List.mem_cons_of_mem _ hd), app_l, ch_l, List.append_assoc]
    rfl
theorem name_marks {x : Str} (h : nameB x = true ∨ gapB x = true) : ∀ c ∈ x.cps.toList, isMk (ch c) = false := fun c hc => by
  have key : isLow c = true ∨ c ∈ bigs.cps.toList := by
    rcases h with h | h
    · exact .inl (List.all_eq_true.mp (Bool.and_eq_true_iff.mp h).2 c hc)
    · obtain ⟨h1, h2⟩ := Bool.and_eq_true_iff.mp h
      obtain ⟨h3, h4⟩ := Bool.and_eq_true_iff.mp h2
      cases e : x.cps.toList with
      | nil => rw [e] at hc; cases hc
      | cons a r =>
        rw [e] at hc h3 h4
        rcases List.mem_cons.mp hc with rfl | hc
        · exact .inr (of_decide_eq_true h3)
        · exact .inl (List.all_eq_true.mp h4 c hc)
  have big : ∀ c ∈ bigs.cps.toList, 65 ≤ c := by decide +kernel
  cases q : isMk (ch c) with
  | false => rfl
  | true =>
    have := isMk_cp.mp q
    rcases key with k | k
    · unfold isLow at k
      have := of_decide_eq_true k
      omega
    · have := big c k
      omega
theorem ne_name {x : Str} (h : nameB x = true ∨ gapB x = true) : x ≠ Str.empty := fun e => by
  rw [e] at h
  rcases h with h | h <;> revert h <;> decide +kernel
theorem wst_word {x : Str} (h : nameB x = true ∨ gapB x = true) (ws : List Str) : x.cps.toList.foldl wst (ws, Str.empty) = (ws, x) := by
  rw [wst_name _ _ _ (name_marks h)]
  have : (⟨(Str.empty.cps.toList ++ x.cps.toList).toArray⟩ : Str) = x := ext_l (by simp [Str.empty])
  rw [this]
theorem hd_s (h : Str) : hd (.s h) = h := by simp [hd]
theorem joinS_l (a b : Str) (r : List Str) : (Txt.join cm (a :: b :: r)).cps.toList = a.cps.toList ++ 44 :: (Txt.join cm (b :: r)).cps.toList := by
  rw [show Txt.join cm (a :: b :: r) = Str.join cm (a :: b :: r) from PySem.StrLaws.glued_eq_join _ _, show Txt.join cm (b :: r) = Str.join cm (b :: r) from PySem.StrLaws.glued_eq_join _ _]
  show (a ++ cm ++ Str.join cm (b :: r)).cps.toList = _
  rw [app_l, app_l, show cm.cps.toList = [44] by decide +kernel, List.append_assoc]
  rfl
theorem join1_l (a : Str) : (Txt.join cm [a]).cps.toList = a.cps.toList := by
  rw [show Txt.join cm [a] = Str.join cm [a] from PySem.StrLaws.glued_eq_join _ _]
  rfl
theorem ch40 : ch 40 = oP := by decide +kernel
theorem ch41 : ch 41 = cP := by decide +kernel
theorem ch44 : ch 44 = cm := by decide +kernel
/-- read word by word it comes to these words -/
def Rd1 (x : Str) (ts : List Str) : Prop := ∀ ws : List Str, wend (x.cps.toList.foldl wst (ws, Str.empty)) = ws ++ ts
theorem rd_mark {x : Str} {ts : List Str} (h : Rd1 x ts) (c : Nat) (hc : isMk (ch c) = true) (cs : List Nat) (ws : List Str) : (x.cps.toList ++ c :: cs).foldl wst (ws, Str.empty) = cs.foldl wst (ws ++ ts ++ [ch c], Str.empty) := by
  rw [List.foldl_append, List.foldl_cons, wst_mark hc, h ws]
theorem rd_join : ∀ (gs : List G), gs ≠ [] → (∀ g ∈ gs, Rd1 (text g) (toks g)) → Rd1 (Txt.join cm (gs.map text)) (sepT (gs.map toks))
  | [], h, _ => absurd rfl h
  | [g], _, h => by
    intro ws
    rw [List.map_cons, List.map_nil, join1_l, h g List.mem_cons_self ws]
    rfl
  | g :: p :: gs, _, h => by
    intro ws
    have ih := rd_join (p :: gs) (by simp) fun q hq => h q (List.mem_cons_of_mem _ hq)
    show wend ((Txt.join cm (text g :: text p :: gs.map text)).cps.toList.foldl wst (ws, Str.empty)) = ws ++ (toks g ++ cm :: sepT ((p :: gs).map toks))
    rw [joinS_l, rd_mark (h g List.mem_cons_self) 44 (by decide +kernel), ch44]
    have := ih (ws ++ toks g ++ [cm])
    rw [List.map_cons] at this
    rw [this]
    simp
theorem rd_text (n : Nat) : ∀ g, dp g ≤ n → gok g = true → Rd1 (text g) (toks g) := by
  induction n with
  | zero =>
    intro g h
    have := dp_pos g
    omega
  | succ n ih =>
    intro g hd' hg
    cases g with
    | s x =>
      intro ws
      have hx : nameB x = true ∨ gapB x = true := .inr (by simpa [gok] using hg)
      rw [toks_s, show text (.s x) = x by simp [text], wst_word hx]
      unfold wend
      rw [if_neg (ne_name hx)]
    | l ps => simp [gok] at hg
    | o d => simp [gok] at hg
    | t ps =>
      cases ps with
      | nil => simp [gok] at hg
      | cons h ps =>
        cases h with
        | s x =>
          rw [gok_t, Bool.and_eq_true_iff] at hg
          have hx : nameB x = true ∨ gapB x = true := .inl hg.1
          have hp : ∀ p ∈ ps, Rd1 (text p) (toks p) := fun p hp => ih p (dp_mem hd' (List.mem_cons_of_mem _ hp)) (List.all_eq_true.mp hg.2 p hp)
          cases ps with
          | nil =>
            intro ws
            rw [text_one, toks_1, hd_s, wst_word hx]
            unfold wend
            rw [if_neg (ne_name hx)]
          | cons p ps =>
            intro ws
            have hj := rd_join (p :: ps) (by simp) hp
            rw [text_more, toks_t, hd_s]
            have e : (x ++ Str.ofString "(" ++ Txt.join (Str.ofString ",") ((p :: ps).map text) ++ Str.ofString ")").cps.toList = x.cps.toList ++ 40 :: ((Txt.join cm ((p :: ps).map text)).cps.toList ++ 41 :: []) := by
              rw [app_l, app_l, app_l, show (Str.ofString "(").cps.toList = [40] by decide +kernel, show (Str.ofString ")").cps.toList = [41] by decide +kernel]
              simp
            have hx1 : Rd1 x [x] := fun ws => by
              rw [wst_word hx]
              unfold wend
              rw [if_neg (ne_name hx)]
            rw [e, rd_mark hx1 40 (by decide +kernel), ch40, rd_mark hj 41 (by decide +kernel), ch41, List.foldl_nil]
            simp [wend]
        | _ => simp [gok] at hg
theorem words_text {g : G} (h : gok g = true) : wrun (text g) = toks g := by
  have := rd_text _ g (Nat.le_refl _) h []
  simpa [wrun] using this
theorem stands_gok {L : List Ln} (ok : LOk L) (n : Nat) : ∀ g, dp g ≤ n → stands L g = true → gok g = true := by
  induction n with
  | zero =>
    intro g h
    have := dp_pos g
    omega
  | succ n ih =>
    intro g hd' hg
    cases g with
    | s x => simpa [gok, stands] using hg
    | l ps => simp [stands] at hg
    | o d => simp [stands] at hg
    | t ps =>
      cases ps with
      | nil => simp [stands] at hg
      | cons h ps =>
        rw [stands_t, Bool.and_eq_true_iff] at hg
        cases h with
        | s x =>
          rw [gok_t, Bool.and_eq_true_iff]
          refine ⟨?_, List.all_eq_true.mpr fun p hp => ih p (dp_mem hd' (List.mem_cons_of_mem _ hp)) (List.all_eq_true.mp hg.2 p hp)⟩
          cases hf : find L x with
          | none => simp [hasParts, hf] at hg
          | some l =>
            obtain ⟨h1, h2⟩ := find_mem hf
            rw [← h2]
            exact ok.nm l h1
        | _ => simp [hasParts] at hg
/-- the parser's state: lists that wait, parts, whether a part is wanted -/
structure PSt where
  wait : List (List G)
  parts : List G
  want : Bool
def leafG (x : Str) : G := if gapB x then .s x else .t [.s x]
def pclose (ps made : List G) : Option (List G) := match ps.getLast? with
  | some (.t qs) => some (ps.dropLast ++ [.t (qs ++ made)])
  | _ => none
/-- one word -/
def pst (prev : Option Str) (s : PSt) (x : Str) : Option PSt :=
  if s.want = true ∧ isMk x = false then some ⟨s.wait, s.parts ++ [leafG x], false⟩
  else if x = oP ∧ (∃ y, prev = some y ∧ isMk y = false ∧ gapB y = false) then some ⟨s.wait ++ [s.parts], [], true⟩
  else if x = cm ∧ s.want = false ∧ s.wait ≠ [] then some ⟨s.wait, s.parts, true⟩
  else if x = cP ∧ s.want = false then (match s.wait.getLast? with
    | some ps => (pclose ps s.parts).map fun q => ⟨s.wait.dropLast, q, false⟩
    | none => none)
  else none
end K1
set_option Elab.async false
set_option linter.all false
set_option maxRecDepth 100000
set_option maxHeartbeats 1000000
namespace K1
open PySem PySem.Spec PyProof.Rows L2
open PySem.W (EachIs)
theorem mk_not {x : Str} (h : nameB x = true ∨ gapB x = true) : isMk x = false := by
  cases q : isMk x with
  | false => rfl
  | true =>
    have hm : x = oP ∨ x = cP ∨ x = cm := by
      unfold isMk at q
      simpa using of_decide_eq_true q
    rcases hm with rfl | rfl | rfl <;> rcases h with h | h <;> revert h <;> decide +kernel
theorem name_nogap {x : Str} (h : nameB x = true) : gapB x = false := by
  cases q : gapB x with
  | false => rfl
  | true =>
    obtain ⟨h1, h2⟩ := Bool.and_eq_true_iff.mp q
    obtain ⟨h3, h4⟩ := Bool.and_eq_true_iff.mp h2
    obtain ⟨k1, k2⟩ := Bool.and_eq_true_iff.mp h
    have l1 := (of_decide_eq_true k1).1
    cases e : x.cps.toList with
    | nil =>
      rw [← len_toList, e] at l1
      simp at l1
    | cons a r =>
      rw [e] at h3 k2
      have m := of_decide_eq_true h3
      have lo := List.all_eq_true.mp k2 a List.mem_cons_self
      have big : ∀ c ∈ bigs.cps.toList, c ≤ 90 := by decide +kernel
      have := big a m
      unfold isLow at lo
      have := of_decide_eq_true lo
      omega
theorem leaf_gap {x : Str} (h : gapB x = true) : leafG x = .s x := if_pos h
theorem leaf_name {x : Str} (h : nameB x = true) : leafG x = .t [.s x] := if_neg (by rw [name_nogap h]; exact Bool.false_ne_true)
def pf (a : Option (PSt × Option Str)) (x : Str) : Option (PSt × Option Str) := a.bind fun z => (pst z.2 z.1 x).map fun s => (s, some x)
theorem pf_word {w : List (List G)} {ps : List G} {pv : Option Str} {x : Str} (h : isMk x = false) : pf (some (⟨w, ps, true⟩, pv)) x = some (⟨w, ps ++ [leafG x], false⟩, some x) := by
  show (pst pv ⟨w, ps, true⟩ x).map _ = _
  unfold pst
  rw [if_pos ⟨rfl, h⟩]
  rfl
theorem pf_open {w : List (List G)} {ps : List G} {y : Str} (h : nameB y = true) : pf (some (⟨w, ps, false⟩, some y)) oP = some (⟨w ++ [ps], [], true⟩, some oP) := by
  show (pst (some y) ⟨w, ps, false⟩ oP).map _ = _
  unfold pst
  rw [if_neg (by simp), if_pos ⟨rfl, y, rfl, mk_not (.inl h), name_nogap h⟩]
  rfl
theorem pf_comma {w : List (List G)} {ps : List G} {pv : Option Str} (h : w ≠ []) : pf (some (⟨w, ps, false⟩, pv)) cm = some (⟨w, ps, true⟩, some cm) := by
  show (pst pv ⟨w, ps, false⟩ cm).map _ = _
  unfold pst
  rw [if_neg (by simp), if_neg (fun z => absurd z.1 (by decide +kernel)), if_pos ⟨rfl, rfl, h⟩]
  rfl
theorem pf_close {w : List (List G)} {ps made qs : List G} {pv : Option Str} : pf (some (⟨w ++ [ps ++ [.t qs]], made, false⟩, pv)) cP = some (⟨w, ps ++ [.t (qs ++ made)], false⟩, some cP) := by
  show (pst pv ⟨w ++ [ps ++ [.t qs]], made, false⟩ cP).map _ = _
  unfold pst
  rw [if_neg (by simp), if_neg (fun z => absurd z.1 (by decide +kernel)), if_neg (fun z => absurd z.1 (by decide +kernel)), if_pos ⟨rfl, rfl⟩]
  simp [pclose]
theorem run_j : ∀ (gs : List G), gs ≠ [] → (∀ g ∈ gs, ∀ w ps pv, ∃ y, (toks g).foldl pf (some (⟨w, ps, true⟩, pv)) = some (⟨w, ps ++ [g], false⟩, some y)) → ∀ w ps pv, w ≠ [] → ∃ y, (sepT (gs.map toks)).foldl pf (some (⟨w, ps, true⟩, pv)) = some (⟨w, ps ++ gs, false⟩, some y)
  | [], h, _, _, _, _, _ => absurd rfl h
  | [g], _, h, w, ps, pv, _ => h g List.mem_cons_self w ps pv
  | g :: p :: gs, _, h, w, ps, pv, hw => by
    obtain ⟨y, e⟩ := h g List.mem_cons_self w ps pv
    show ∃ y, (toks g ++ cm :: sepT ((p :: gs).map toks)).foldl pf _ = _
    rw [List.foldl_append, e, List.foldl_cons, pf_comma hw]
    obtain ⟨z, e2⟩ := run_j (p :: gs) (by simp) (fun q hq => h q (List.mem_cons_of_mem _ hq)) w (ps ++ [g]) (some cm) hw
    refine ⟨z, ?_⟩
    rw [e2]
    simp
theorem run_g (n : Nat) : ∀ g, dp g ≤ n → gok g = true → ∀ w ps pv, ∃ y, (toks g).foldl pf (some (⟨w, ps, true⟩, pv)) = some (⟨w, ps ++ [g], false⟩, some y) := by
  induction n with
  | zero =>
    intro g h
    have := dp_pos g
    omega
  | succ n ih =>
    intro g hd' hg w ps pv
    cases g with
    | s x =>
      have hx : gapB x = true := by simpa [gok] using hg
      exact ⟨x, by rw [toks_s, List.foldl_cons, pf_word (mk_not (.inr hx)), leaf_gap hx, List.foldl_nil]⟩
    | l qs => simp [gok] at hg
    | o d => simp [gok] at hg
    | t qs =>
      cases qs with
      | nil => simp [gok] at hg
      | cons h qs =>
        cases h with
        | s x =>
          rw [gok_t, Bool.and_eq_true_iff] at hg
          have hx := mk_not (.inl hg.1)
          have hp : ∀ p ∈ qs, ∀ w ps pv, ∃ y, (toks p).foldl pf (some (⟨w, ps, true⟩, pv)) = some (⟨w, ps ++ [p], false⟩, some y) := fun p hp => ih p (dp_mem hd' (List.mem_cons_of_mem _ hp)) (List.all_eq_true.mp hg.2 p hp)
          cases qs with
          | nil => exact ⟨x, by rw [toks_1, hd_s, List.foldl_cons, pf_word hx, leaf_name hg.1, List.foldl_nil]⟩
          | cons p qs =>
            obtain ⟨y, e⟩ := run_j (p :: qs) (by simp) hp (w ++ [ps ++ [.t [.s x]]]) [] (some oP) (by simp)
            refine ⟨cP, ?_⟩
            rw [toks_t, hd_s, List.foldl_cons, pf_word hx, leaf_name hg.1, List.foldl_cons, pf_open hg.1, List.foldl_append, e, List.foldl_cons, List.nil_append, pf_close, List.foldl_nil]
            rfl
        | _ => simp [gok] at hg
/-- after i words: the parser stands, and the word ahead is the last of these -/
theorem run_take {g : G} (hg : gok g = true) (i : Nat) : ∃ s, ((toks g).take i).foldl pf (some (⟨[], [], true⟩, none)) = some (s, ((toks g).take i).getLast?) := by
  obtain ⟨y, e⟩ := run_g _ g (Nat.le_refl _) hg [] [] none
  have bad : ∀ zs : List Str, zs.foldl pf none = none := fun zs => by
    induction zs with
    | nil => rfl
    | cons z zs ih => exact ih
  have key : ∀ (xs ys : List Str) (a : PSt × Option Str), (xs ++ ys).foldl pf (some a) ≠ none → ∃ s, xs.foldl pf (some a) = some (s, xs.getLast?.or a.2) := fun xs => by
    induction xs with
    | nil => exact fun ys a _ => ⟨a.1, rfl⟩
    | cons x xs ih =>
      intro ys a h
      rw [List.cons_append, List.foldl_cons] at h
      cases q : pst a.2 a.1 x with
      | none =>
        have : pf (some a) x = none := by
          show (pst a.2 a.1 x).map _ = none
          rw [q]
          rfl
        rw [this] at h
        exact absurd (bad _) h
      | some s1 =>
        have e1 : pf (some a) x = some (s1, some x) := by
          show (pst a.2 a.1 x).map _ = _
          rw [q]
          rfl
        rw [e1] at h
        obtain ⟨s, es⟩ := ih ys (s1, some x) h
        refine ⟨s, ?_⟩
        rw [List.foldl_cons, e1, es, List.getLast?_cons]
        cases xs.getLast? <;> rfl
  obtain ⟨s, es⟩ := key ((toks g).take i) ((toks g).drop i) (⟨[], [], true⟩, none) (by rw [List.take_append_drop, e]; simp)
  exact ⟨s, by rw [es]; simp⟩
end K1
set_option Elab.async false
set_option linter.all false
set_option maxRecDepth 100000
set_option maxHeartbeats 1000000
namespace K1
open PySem PySem.Spec PyProof.Rows L2
open PySem.W (EachIs)
theorem leK_is : SrtF.leK text = fun a b => decide ((text a).cps.toList ≤ (text b).cps.toList) := PySem.W.dataLe_str text
theorem sortT_idem (qs : List G) : sortT (sortT qs) = sortT qs := by
  unfold sortT
  refine List.mergeSort_of_pairwise (List.pairwise_mergeSort (fun a b c h1 h2 => ?_) (fun a b => ?_) qs)
  · rw [leK_is] at h1 h2 ⊢
    exact decide_eq_true (List.le_trans (of_decide_eq_true h1) (of_decide_eq_true h2))
  · rw [leK_is]
    rcases List.le_total (text a).cps.toList (text b).cps.toList with h | h
    · simp [h]
    · simp [h]
/-- no part's head is this -/
def noHd (h : Str) (r : G) : Prop := ∀ rs, r ≠ .t (.s h :: rs)
theorem oneP_no {h : Str} {r : G} (n : noHd h r) : oneP h r = [r] := by
  unfold oneP
  split
  · rename_i x rs
    by_cases e : x = h
    · subst e
      exact absurd rfl (n rs)
    · rw [if_neg e]
  · rfl
theorem flat_no {h : Str} : ∀ {rs : List G}, (∀ r ∈ rs, noHd h r) → flat h rs = rs
  | [], _ => rfl
  | r :: rs, n => by
    have := flat_no fun q hq => n q (List.mem_cons_of_mem _ hq)
    unfold flat at this ⊢
    rw [List.flatMap_cons, oneP_no (n r List.mem_cons_self), this]
    rfl
theorem arr_fix {k h : Str} {qs : List G} (n : rowish k = true → ∀ r ∈ arr k h qs, noHd h r) : arr k h (arr k h qs) = arr k h qs := by
  have ho : opn k h (arr k h qs) = arr k h qs := by
    unfold opn
    split
    · next e => exact flat_no (n e)
    · rfl
  have e0 : arr k h (arr k h qs) = if loose k = true then sortT (opn k h (arr k h qs)) else opn k h (arr k h qs) := rfl
  rw [e0, ho]
  by_cases e : loose k = true
  · have e1 : arr k h qs = sortT (opn k h qs) := by unfold arr; rw [if_pos e]
    rw [if_pos e, e1, sortT_idem]
  · rw [if_neg e]
/-- what holds of a laid thing -/
def LdQ (L : List Ln) (x : G) : Prop := laid L x = x ∧ ∀ h rs, x = .t (.s h :: rs) → (∀ r ∈ rs, laid L r = r) ∧ (rowish (kindOf L h) = true → ∀ r ∈ rs, noHd h r)
theorem laid_q (L : List Ln) (n : Nat) : ∀ g, dp g ≤ n → LdQ L (laid L g) := by
  induction n with
  | zero =>
    intro g h
    have := dp_pos g
    omega
  | succ n ih =>
    intro g hd'
    have other : ∀ g : G, (∀ h rs, g ≠ .t (.s h :: rs)) → laid L g = g ∧ LdQ L g := fun g hg => by
      have e : laid L g = g := by
        unfold laid
        split
        · exact absurd rfl (hg _ _)
        · rfl
      exact ⟨e, e, fun h rs z => absurd z (hg h rs)⟩
    by_cases hg : ∃ h ps, g = .t (.s h :: ps)
    · obtain ⟨h, ps, rfl⟩ := hg
      have hq : ∀ q ∈ ps.map (laid L), LdQ L q := fun q hq => by
        obtain ⟨p, hp, rfl⟩ := List.mem_map.mp hq
        exact ih p (dp_mem hd' (List.mem_cons_of_mem _ hp))
      have hfix : ∀ r ∈ arr (kindOf L h) h (ps.map (laid L)), laid L r = r := fun r hr => by
        rcases arr_mem hr with hr | ⟨rs, h1, h2⟩
        · exact (hq r hr).1
        · exact ((hq _ h1).2 h rs rfl).1 r h2
      have hno : rowish (kindOf L h) = true → ∀ r ∈ arr (kindOf L h) h (ps.map (laid L)), noHd h r := fun hrow r hr => by
        have hr2 : r ∈ opn (kindOf L h) h (ps.map (laid L)) := (arr_perm _ _ _).mem_iff.mp hr
        unfold opn at hr2
        rw [if_pos hrow] at hr2
        obtain ⟨p, hp, hrp⟩ := List.mem_flatMap.mp hr2
        by_cases e : ∃ rs, p = .t (.s h :: rs)
        · obtain ⟨rs, rfl⟩ := e
          have : oneP h (.t (.s h :: rs)) = rs := by simp [oneP]
          rw [this] at hrp
          exact ((hq _ hp).2 h rs rfl).2 hrow r hrp
        · rw [oneP_no (fun rs z => e ⟨rs, z⟩), List.mem_singleton] at hrp
          rw [hrp]
          exact fun rs z => e ⟨rs, z⟩
      rw [laid_t]
      refine ⟨?_, fun h' rs e => ?_⟩
      · rw [laid_t, show (arr (kindOf L h) h (ps.map (laid L))).map (laid L) = arr (kindOf L h) h (ps.map (laid L)) from (List.map_congr_left hfix).trans (List.map_id _), arr_fix hno]
      · cases e
        exact ⟨hfix, hno⟩
    · obtain ⟨e, q⟩ := other g fun h rs z => hg ⟨h, rs, z⟩
      rw [e]
      exact q
theorem laid_laid (L : List Ln) (g : G) : laid L (laid L g) = laid L g := (laid_q L _ g (Nat.le_refl _)).1
theorem flat_len2 {h : Str} : ∀ {qs : List G}, (∀ q ∈ qs, 1 ≤ (oneP h q).length) → qs.length ≤ (flat h qs).length
  | [], _ => Nat.zero_le _
  | q :: qs, n => by
    have h1 := flat_len2 fun p hp => n p (List.mem_cons_of_mem _ hp)
    have h2 := n q List.mem_cons_self
    unfold flat at h1 ⊢
    rw [List.flatMap_cons, List.length_append, List.length_cons]
    omega
theorem wide_q {k h : Str} {qs : List G} {q : G} (hq : q ∈ qs) : wide q ≤ wide (.t (.s h :: arr k h qs)) := by
  rw [wide_t]
  have kept : q ∈ arr k h qs → wide q ≤ max (arr k h qs).length (maxl ((arr k h qs).map wide)) := fun hm => by
    have := le_maxl (List.mem_map.mpr ⟨q, hm, rfl⟩ : wide q ∈ (arr k h qs).map wide)
    omega
  have hp := arr_perm k h qs
  by_cases e : rowish k = true ∧ ∃ rs, q = .t (.s h :: rs)
  · obtain ⟨er, rs, rfl⟩ := e
    have eo : opn k h qs = flat h qs := by unfold opn; rw [if_pos er]
    have sub : ∀ r ∈ rs, r ∈ arr k h qs := fun r hr => by
      rw [hp.mem_iff, eo]
      exact List.mem_flatMap.mpr ⟨_, hq, by simpa [oneP] using hr⟩
    have hl : rs.length ≤ (arr k h qs).length := by
      rw [hp.length_eq, eo]
      obtain ⟨a, b, rfl⟩ := List.append_of_mem hq
      unfold flat
      rw [List.flatMap_append, List.flatMap_cons, List.length_append, List.length_append]
      simp [oneP]
      omega
    rw [wide_t]
    have hm : maxl (rs.map wide) ≤ maxl ((arr k h qs).map wide) := maxl_le.mpr fun n hn => by
      obtain ⟨r, hr, rfl⟩ := List.mem_map.mp hn
      exact le_maxl (List.mem_map.mpr ⟨r, sub r hr, rfl⟩)
    omega
  · refine kept (hp.mem_iff.mpr ?_)
    unfold opn
    split
    · next er => exact List.mem_flatMap.mpr ⟨q, hq, by rw [oneP_no (fun rs z => e ⟨er, rs, z⟩)]; simp⟩
    · exact hq
theorem stands_laid {L : List Ln} (n : Nat) : ∀ g, dp g ≤ n → stands L g = true → wide (laid L g) ≤ 8 → stands L (laid L g) = true := by
  induction n with
  | zero =>
    intro g h
    have := dp_pos g
    omega
  | succ n ih =>
    intro g hd' hg hw
    cases g with
    | s y => rw [laid_s]; exact hg
    | l ps => simp [stands] at hg
    | o d => simp [stands] at hg
    | t ps =>
      cases ps with
      | nil => simp [stands] at hg
      | cons h ps =>
        rw [stands_t, Bool.and_eq_true_iff] at hg
        cases h with
        | s y =>
          rw [laid_t] at hw ⊢
          have hq : ∀ q ∈ ps.map (laid L), stands L q = true := fun q hq => by
            have hwq := wide_q (k := kindOf L y) (h := y) hq
            obtain ⟨p, hp, rfl⟩ := List.mem_map.mp hq
            exact ih p (dp_mem hd' (List.mem_cons_of_mem _ hp)) (List.all_eq_true.mp hg.2 p hp) (by omega)
          rw [stands_t, Bool.and_eq_true_iff]
          constructor
          · cases hf : find L y with
            | none => simp [hasParts, hf] at hg
            | some l =>
              have ek : kindOf L y = l.2.1 := by unfold kindOf; rw [hf]
              have h1 := hg.1
              simp only [hasParts, hf] at h1 ⊢
              rw [ek] at hw ⊢
              have hlen := (arr_perm l.2.1 y (ps.map (laid L))).length_eq
              by_cases er : rowish l.2.1 = true
              · rw [if_pos er] at h1 ⊢
                have eo : opn l.2.1 y (ps.map (laid L)) = flat y (ps.map (laid L)) := by unfold opn; rw [if_pos er]
                have h2 := of_decide_eq_true h1
                have h3 : (ps.map (laid L)).length ≤ (flat y (ps.map (laid L))).length := flat_len2 fun q hq' => by
                  by_cases e : ∃ rs, q = .t (.s y :: rs)
                  · obtain ⟨rs, rfl⟩ := e
                    have hs := hq _ hq'
                    rw [stands_t, Bool.and_eq_true_iff] at hs
                    have h4 := hs.1
                    simp only [hasParts, hf, if_pos er] at h4
                    have := of_decide_eq_true h4
                    simp [oneP]
                    omega
                  · rw [oneP_no (fun rs z => e ⟨rs, z⟩)]
                    simp
                rw [wide_t] at hw
                rw [eo] at hlen
                rw [List.length_map] at h3
                exact decide_eq_true (by omega)
              · rw [if_neg er] at h1 ⊢
                have eo : opn l.2.1 y (ps.map (laid L)) = ps.map (laid L) := by unfold opn; rw [if_neg er]
                rw [eo, List.length_map] at hlen
                rw [hlen]
                exact h1
          · rw [List.all_eq_true]
            intro r hr
            rcases arr_mem hr with hr | ⟨rs, h1, h2⟩
            · exact hq r hr
            · have hs := hq _ h1
              rw [stands_t, Bool.and_eq_true_iff] at hs
              exact List.all_eq_true.mp hs.2 r h2
        | _ => simp [hasParts] at hg
theorem lay0_laid {L : List Ln} {g : G} (h : lay0 L g = true) : lay0 L (laid L g) = true := by
  unfold lay0 at h
  rw [Bool.and_eq_true_iff, Bool.and_eq_true_iff, Bool.and_eq_true_iff] at h
  obtain ⟨h1, h2, h3, h4⟩ := h
  have hb : beyond (laid L g) = false := by simpa using h4
  unfold beyond at hb
  simp only [Bool.or_eq_false_iff, decide_eq_false_iff_not] at hb
  unfold lay0
  rw [laid_laid, stands_laid _ g (Nat.le_refl _) h1 (by omega), h4, decide_eq_true (by omega : points (laid L g) ≤ 80), decide_eq_true (by omega : deep (laid L g) ≤ 12)]
  rfl
end K1
set_option Elab.async false
set_option linter.all false
set_option maxRecDepth 100000
set_option maxHeartbeats 1000000
namespace K1
open PySem PySem.Spec PyProof.Rows L2
/-- texts tell things apart -/
theorem text_inj {a b : G} (ha : gok a = true) (hb : gok b = true) (h : text a = text b) : a = b := by
  have ht : toks a = toks b := by rw [← words_text ha, ← words_text hb, h]
  obtain ⟨y, ea⟩ := run_g _ a (Nat.le_refl _) ha [] [] none
  obtain ⟨z, eb⟩ := run_g _ b (Nat.le_refl _) hb [] [] none
  rw [ht, eb] at ea
  have := congrArg Prod.fst (Option.some.inj ea)
  have := congrArg PSt.parts this
  simpa using this.symm
/-- two sorted rows of the same things are one row -/
theorem sortT_eq {a b : List G} (ha : ∀ g ∈ a, gok g = true) (hp : a.Perm b) : sortT a = sortT b := by
  have tr : ∀ x y z : G, SrtF.leK text x y = true → SrtF.leK text y z = true → SrtF.leK text x z = true := fun x y z h1 h2 => by
    rw [leK_is] at h1 h2 ⊢
    exact decide_eq_true (List.le_trans (of_decide_eq_true h1) (of_decide_eq_true h2))
  have to : ∀ x y : G, (SrtF.leK text x y || SrtF.leK text y x) = true := fun x y => by
    rw [leK_is]
    rcases List.le_total (text x).cps.toList (text y).cps.toList with h | h <;> simp [h]
  have pa : (sortT a).Pairwise (fun x y => SrtF.leK text x y = true) := List.pairwise_mergeSort tr to a
  have pb : (sortT b).Pairwise (fun x y => SrtF.leK text x y = true) := List.pairwise_mergeSort tr to b
  have pp : (sortT a).Perm (sortT b) := (sortT_perm a).trans (hp.trans (sortT_perm b).symm)
  refine List.Perm.eq_of_pairwise (fun x y hx hy h1 h2 => ?_) pa pb pp
  rw [leK_is] at h1 h2
  have gx := ha x ((sortT_perm a).mem_iff.mp hx)
  have gy := ha y (hp.mem_iff.mpr ((sortT_perm b).mem_iff.mp hy))
  exact text_inj gx gy (ext_l (List.le_antisymm (of_decide_eq_true h1) (of_decide_eq_true h2)))
end K1
set_option Elab.async false
set_option linter.all false
set_option maxRecDepth 100000
set_option maxHeartbeats 1000000
namespace K1
open PySem PySem.Spec PyProof.Rows L2
/-- the parts, those of the very same sign opened all the way -/
def open1 (h : Str) (f : List G → List G) : G → List G
  | .t (.s x :: rs) => if x = h then f rs else [.t (.s x :: rs)]
  | q => [q]
def openN (h : Str) : Nat → List G → List G
  | 0, ps => ps
  | n + 1, ps => ps.flatMap (open1 h (openN h n))
theorem flatMap_perm {f g : G → List G} : ∀ {ps : List G}, (∀ p ∈ ps, (f p).Perm (g p)) → (ps.flatMap f).Perm (ps.flatMap g)
  | [], _ => List.Perm.refl _
  | p :: ps, h => by
    rw [List.flatMap_cons, List.flatMap_cons]
    exact (h p List.mem_cons_self).append (flatMap_perm fun q hq => h q (List.mem_cons_of_mem _ hq))
theorem flatMap_same {f g : G → List G} : ∀ {ps : List G}, (∀ p ∈ ps, f p = g p) → ps.flatMap f = ps.flatMap g
  | [], _ => rfl
  | p :: ps, h => by
    rw [List.flatMap_cons, List.flatMap_cons, h p List.mem_cons_self, flatMap_same fun q hq => h q (List.mem_cons_of_mem _ hq)]
theorem laid_other {L : List Ln} {g : G} (hg : ∀ h rs, g ≠ .t (.s h :: rs)) : laid L g = g := by
  unfold laid
  split
  · exact absurd rfl (hg _ _)
  · rfl
theorem open1_same (h : Str) (f : List G → List G) (rs : List G) : open1 h f (.t (.s h :: rs)) = f rs := by simp [open1]
theorem open1_other {h : Str} {f : List G → List G} {q : G} (n : noHd h q) : open1 h f q = [q] := by
  unfold open1
  split
  · rename_i x rs
    by_cases e : x = h
    · subst e
      exact absurd rfl (n rs)
    · rw [if_neg e]
  · rfl
theorem laid_noHd {L : List Ln} {h : Str} {q : G} (n : noHd h q) : noHd h (laid L q) := fun rs e => by
  by_cases hg : ∃ x qs, q = .t (.s x :: qs)
  · obtain ⟨x, qs, rfl⟩ := hg
    rw [laid_t] at e
    cases e
    exact n qs rfl
  · rw [laid_other fun x qs z => hg ⟨x, qs, z⟩] at e
    exact n rs e
/-- laid and opened is opened and laid, up to order -/
theorem open_laid {L : List Ln} {h : Str} (er : rowish (kindOf L h) = true) (n : Nat) : ∀ ps : List G, (∀ p ∈ ps, dp p ≤ n) → (flat h (ps.map (laid L))).Perm ((openN h n ps).map (laid L)) := by
  induction n with
  | zero =>
    intro ps hp
    cases ps with
    | nil => exact List.Perm.refl _
    | cons p ps =>
      have := dp_pos p
      have := hp p List.mem_cons_self
      omega
  | succ n ih =>
    intro ps hp
    have e1 : flat h (ps.map (laid L)) = ps.flatMap fun p => oneP h (laid L p) := by
      unfold flat
      rw [List.flatMap_map]
    have e2 : (openN h (n + 1) ps).map (laid L) = ps.flatMap fun p => (open1 h (openN h n) p).map (laid L) := by
      show (ps.flatMap _).map _ = _
      rw [List.map_flatMap]
    rw [e1, e2]
    refine flatMap_perm fun p hpm => ?_
    by_cases e : ∃ rs, p = .t (.s h :: rs)
    · obtain ⟨rs, rfl⟩ := e
      rw [laid_t, open1_same]
      have : oneP h (.t (.s h :: arr (kindOf L h) h (rs.map (laid L)))) = arr (kindOf L h) h (rs.map (laid L)) := by simp [oneP]
      rw [this]
      refine (arr_perm _ _ _).trans ?_
      rw [show opn (kindOf L h) h (rs.map (laid L)) = flat h (rs.map (laid L)) by unfold opn; rw [if_pos er]]
      exact ih rs fun q hq => dp_mem (hp _ hpm) (List.mem_cons_of_mem _ hq)
    · have nh : noHd h p := fun rs z => e ⟨rs, z⟩
      rw [open1_other nh, oneP_no (laid_noHd nh)]
      exact List.Perm.refl _
/-- of a row in the very same order -/
theorem open_laid_row {L : List Ln} {h : Str} (er : rowish (kindOf L h) = true) (el : loose (kindOf L h) = false) (n : Nat) : ∀ ps : List G, (∀ p ∈ ps, dp p ≤ n) → flat h (ps.map (laid L)) = (openN h n ps).map (laid L) := by
  induction n with
  | zero =>
    intro ps hp
    cases ps with
    | nil => rfl
    | cons p ps =>
      have := dp_pos p
      have := hp p List.mem_cons_self
      omega
  | succ n ih =>
    intro ps hp
    have e1 : flat h (ps.map (laid L)) = ps.flatMap fun p => oneP h (laid L p) := by
      unfold flat
      rw [List.flatMap_map]
    have e2 : (openN h (n + 1) ps).map (laid L) = ps.flatMap fun p => (open1 h (openN h n) p).map (laid L) := by
      show (ps.flatMap _).map _ = _
      rw [List.map_flatMap]
    rw [e1, e2]
    refine flatMap_same fun p hpm => ?_
    by_cases e : ∃ rs, p = .t (.s h :: rs)
    · obtain ⟨rs, rfl⟩ := e
      rw [laid_t, open1_same]
      have : oneP h (.t (.s h :: arr (kindOf L h) h (rs.map (laid L)))) = arr (kindOf L h) h (rs.map (laid L)) := by simp [oneP]
      rw [this]
      unfold arr
      rw [el, if_neg Bool.false_ne_true, show opn (kindOf L h) h (rs.map (laid L)) = flat h (rs.map (laid L)) by unfold opn; rw [if_pos er]]
      exact ih rs fun q hq => dp_mem (hp _ hpm) (List.mem_cons_of_mem _ hq)
    · have nh : noHd h p := fun rs z => e ⟨rs, z⟩
      rw [open1_other nh, oneP_no (laid_noHd nh)]
      rfl
end K1
set_option Elab.async false
set_option linter.all false
set_option maxRecDepth 100000
set_option maxHeartbeats 1000000
namespace K1
open PySem PySem.Spec PyProof.Rows L2
/-- the first of these that is so goes -/
def drop1 (f : G → Bool) : List G → Option (List G)
  | [] => none
  | q :: qs => if f q = true then some qs else (drop1 f qs).map (q :: ·)
/-- each finds one of the others, which goes -/
def matchAll (f : G → G → Bool) : List G → List G → Bool
  | [], _ => true
  | p :: ps, qs => match drop1 (f p) qs with
    | some rest => matchAll f ps rest
    | none => false
theorem drop1_some {f : G → Bool} : ∀ {qs rest : List G}, drop1 f qs = some rest → ∃ q, f q = true ∧ q ∈ qs ∧ qs.Perm (q :: rest)
  | [], _, h => by cases h
  | q :: qs, rest, h => by
    unfold drop1 at h
    by_cases e : f q = true
    · rw [if_pos e] at h
      cases h
      exact ⟨q, e, List.mem_cons_self, List.Perm.refl _⟩
    · rw [if_neg e] at h
      cases hd : drop1 f qs with
      | none => rw [hd] at h; cases h
      | some r =>
        rw [hd] at h
        cases h
        obtain ⟨z, h1, h2, h3⟩ := drop1_some hd
        exact ⟨z, h1, List.mem_cons_of_mem _ h2, (h3.cons q).trans (List.Perm.swap z q r)⟩
theorem drop1_none {f : G → Bool} : ∀ {qs : List G}, drop1 f qs = none → ∀ q ∈ qs, f q = false
  | [], _, q, hq => by cases hq
  | z :: qs, h, q, hq => by
    unfold drop1 at h
    by_cases e : f z = true
    · rw [if_pos e] at h
      cases h
    · rw [if_neg e] at h
      cases hd : drop1 f qs with
      | some r => rw [hd] at h; cases h
      | none =>
        rcases List.mem_cons.mp hq with rfl | hq
        · simpa using e
        · exact drop1_none hd q hq
/-- greedily matched just where one is the other in another order -/
theorem match_perm (m : G → G) (f : G → G → Bool) : ∀ (ps qs : List G), (∀ p ∈ ps, ∀ q ∈ qs, f p q = true ↔ m p = m q) → ps.length = qs.length → (matchAll f ps qs = true ↔ (ps.map m).Perm (qs.map m))
  | [], qs, _, hl => by
    have : qs = [] := List.eq_nil_of_length_eq_zero hl.symm
    subst this
    simp [matchAll]
  | p :: ps, qs, hf, hl => by
    unfold matchAll
    cases hd : drop1 (f p) qs with
    | none =>
      refine ⟨fun z => (by cases z), fun hp => ?_⟩
      have hm : m p ∈ qs.map m := hp.mem_iff.mp (by simp)
      obtain ⟨q, hq, e⟩ := List.mem_map.mp hm
      have h1 := (hf p List.mem_cons_self q hq).mpr e.symm
      rw [drop1_none hd q hq] at h1
      cases h1
    | some rest =>
      obtain ⟨q, h1, h2, h3⟩ := drop1_some hd
      have e := (hf p List.mem_cons_self q h2).mp h1
      have hlr : ps.length = rest.length := by
        have := h3.length_eq
        simp only [List.length_cons] at this hl
        omega
      have ih := match_perm m f ps rest (fun a ha b hb => hf a (List.mem_cons_of_mem _ ha) b (h3.mem_iff.mpr (List.mem_cons_of_mem _ hb))) hlr
      show matchAll f ps rest = true ↔ _
      rw [ih]
      have h4 : (qs.map m).Perm (m q :: rest.map m) := h3.map m
      constructor
      · intro hp
        show (m p :: ps.map m).Perm (qs.map m)
        rw [e]
        exact (hp.cons _).trans h4.symm
      · intro hp
        have h5 : (m p :: ps.map m).Perm (m q :: rest.map m) := hp.trans h4
        rw [e] at h5
        exact h5.cons_inv
end K1
set_option Elab.async false
set_option linter.all false
set_option maxRecDepth 100000
set_option maxHeartbeats 1000000
namespace K1
open PySem PySem.Spec PyProof.Rows L2
theorem openN_fuel {h : Str} (n : Nat) : ∀ (m : Nat) (ps : List G), (∀ p ∈ ps, dp p ≤ n) → (∀ p ∈ ps, dp p ≤ m) → openN h n ps = openN h m ps := by
  induction n with
  | zero =>
    intro m ps hn hm
    cases ps with
    | nil => cases m <;> rfl
    | cons p ps =>
      have := dp_pos p
      have := hn p List.mem_cons_self
      omega
  | succ n ih =>
    intro m ps hn hm
    cases m with
    | zero =>
      cases ps with
      | nil => rfl
      | cons p ps =>
        have := dp_pos p
        have := hm p List.mem_cons_self
        omega
    | succ m =>
      refine flatMap_same fun p hp => ?_
      by_cases e : ∃ rs, p = .t (.s h :: rs)
      · obtain ⟨rs, rfl⟩ := e
        rw [open1_same, open1_same]
        exact ih m rs (fun q hq => dp_mem (hn _ hp) (List.mem_cons_of_mem _ hq)) (fun q hq => dp_mem (hm _ hp) (List.mem_cons_of_mem _ hq))
      · have nh : noHd h p := fun rs z => e ⟨rs, z⟩
        rw [open1_other nh, open1_other nh]
/-- the parts as the law opens them -/
def opG (L : List Ln) (h : Str) (ps : List G) : List G := if rowish (kindOf L h) then openN h (maxl (ps.map dp)) ps else ps
theorem openN_mem {L : List Ln} {h : Str} (n : Nat) : ∀ (ps : List G) (N : Nat), (∀ p ∈ ps, dp p ≤ N) → (∀ p ∈ ps, stands L p = true) → ∀ r ∈ openN h n ps, dp r ≤ N ∧ stands L r = true := by
  induction n with
  | zero => exact fun ps N hd hs r hr => ⟨hd r hr, hs r hr⟩
  | succ n ih =>
    intro ps N hd hs r hr
    obtain ⟨p, hp, hrp⟩ := List.mem_flatMap.mp hr
    by_cases e : ∃ rs, p = .t (.s h :: rs)
    · obtain ⟨rs, rfl⟩ := e
      rw [open1_same] at hrp
      have hst := hs _ hp
      rw [stands_t, Bool.and_eq_true_iff] at hst
      have hdp := hd _ hp
      refine ih rs N (fun q hq => ?_) (fun q hq => List.all_eq_true.mp hst.2 q hq) r hrp
      have := dp_mem (n := N) (by omega : dp (.t (.s h :: rs)) ≤ N + 1) (List.mem_cons_of_mem _ hq)
      exact this
    · have nh : noHd h p := fun rs z => e ⟨rs, z⟩
      rw [open1_other nh, List.mem_singleton] at hrp
      rw [hrp]
      exact ⟨hd p hp, hs p hp⟩
theorem opG_mem {L : List Ln} {h : Str} {ps : List G} {N : Nat} (hd : ∀ p ∈ ps, dp p ≤ N) (hs : ∀ p ∈ ps, stands L p = true) : ∀ r ∈ opG L h ps, dp r ≤ N ∧ stands L r = true := fun r hr => by
  unfold opG at hr
  split at hr
  · exact openN_mem _ ps N hd hs r hr
  · exact ⟨hd r hr, hs r hr⟩
theorem le_dps {ps : List G} : ∀ p ∈ ps, dp p ≤ maxl (ps.map dp) := fun p hp => le_maxl (List.mem_map.mpr ⟨p, hp, rfl⟩)
/-- laid: the opened parts laid, in their order, or sorted -/
theorem arr_op {L : List Ln} {h : Str} {ps : List G} : (loose (kindOf L h) = false → arr (kindOf L h) h (ps.map (laid L)) = (opG L h ps).map (laid L)) ∧ (opn (kindOf L h) h (ps.map (laid L))).Perm ((opG L h ps).map (laid L)) := by
  unfold opG opn arr
  by_cases er : rowish (kindOf L h) = true
  · rw [if_pos er, if_pos er]
    refine ⟨fun el => ?_, open_laid er _ ps le_dps⟩
    rw [el, if_neg Bool.false_ne_true]
    unfold opn
    rw [if_pos er]
    exact open_laid_row er el _ ps le_dps
  · rw [if_neg er, if_neg er]
    refine ⟨fun el => ?_, List.Perm.refl _⟩
    rw [el, if_neg Bool.false_ne_true]
    unfold opn
    rw [if_neg er]
end K1
set_option Elab.async false
set_option linter.all false
set_option maxRecDepth 100000
set_option maxHeartbeats 1000000
namespace K1
open PySem PySem.Spec PyProof.Rows L2
def allPairs (f : G → G → Bool) : List G → List G → Bool
  | [], [] => true
  | p :: ps, q :: qs => f p q && allPairs f ps qs
  | _, _ => false
theorem allPairs_iff (m : G → G) (f : G → G → Bool) : ∀ (ps qs : List G), (∀ p ∈ ps, ∀ q ∈ qs, f p q = true ↔ m p = m q) → (allPairs f ps qs = true ↔ ps.map m = qs.map m)
  | [], [], _ => by simp [allPairs]
  | [], q :: qs, _ => by simp [allPairs]
  | p :: ps, [], _ => by simp [allPairs]
  | p :: ps, q :: qs, h => by
    have ih := allPairs_iff m f ps qs fun a ha b hb => h a (List.mem_cons_of_mem _ ha) b (List.mem_cons_of_mem _ hb)
    simp only [allPairs, Bool.and_eq_true, List.map_cons, List.cons.injEq]
    rw [ih, h p List.mem_cons_self q List.mem_cons_self]
/-- alike by order and grouping, as the law goes about it -/
def areN (L : List Ln) : Nat → G → G → Bool
  | n + 1, .t (.s x :: ps), .t (.s y :: qs) => decide (x = y) && (decide ((opG L x ps).length = (opG L y qs).length) && (if loose (kindOf L x) then matchAll (areN L n) (opG L x ps) (opG L y qs) else allPairs (areN L n) (opG L x ps) (opG L y qs)))
  | _, .s a, .s b => decide (a = b)
  | _, _, _ => false
theorem gok_laid {L : List Ln} (n : Nat) : ∀ g, dp g ≤ n → gok g = true → gok (laid L g) = true := by
  induction n with
  | zero =>
    intro g h
    have := dp_pos g
    omega
  | succ n ih =>
    intro g hd' hg
    cases g with
    | s y => rw [laid_s]; exact hg
    | l ps => simp [gok] at hg
    | o d => simp [gok] at hg
    | t ps =>
      cases ps with
      | nil => simp [gok] at hg
      | cons h ps =>
        cases h with
        | s y =>
          rw [gok_t, Bool.and_eq_true_iff] at hg
          rw [laid_t, gok_t, Bool.and_eq_true_iff]
          have hq : ∀ q ∈ ps.map (laid L), gok q = true := fun q hq => by
            obtain ⟨p, hp, rfl⟩ := List.mem_map.mp hq
            exact ih p (dp_mem hd' (List.mem_cons_of_mem _ hp)) (List.all_eq_true.mp hg.2 p hp)
          refine ⟨hg.1, List.all_eq_true.mpr fun r hr => ?_⟩
          rcases arr_mem hr with hr | ⟨rs, h1, h2⟩
          · exact hq r hr
          · have := hq _ h1
            rw [gok_t, Bool.and_eq_true_iff] at this
            exact List.all_eq_true.mp this.2 r h2
        | _ => simp [gok] at hg
theorem are_laid {L : List Ln} (ok : LOk L) (n : Nat) : ∀ a b, dp a ≤ n → stands L a = true → stands L b = true → (areN L n a b = true ↔ laid L a = laid L b) := by
  induction n with
  | zero =>
    intro a b h
    have := dp_pos a
    omega
  | succ n ih =>
    intro a b hd' ha hb
    have sa := (stands_shp _ a (Nat.le_refl _) ha).1
    have sb := (stands_shp _ b (Nat.le_refl _) hb).1
    rcases shp_cases sa with ⟨x, rfl⟩ | ⟨x, ps, rfl, _⟩ <;> rcases shp_cases sb with ⟨y, rfl⟩ | ⟨y, qs, rfl, _⟩
    · rw [laid_s, laid_s]
      simp [areN]
    · rw [laid_s, laid_t]
      simp [areN]
    · rw [laid_s, laid_t]
      simp [areN]
    · rw [laid_t, laid_t]
      simp only [areN, Bool.and_eq_true, decide_eq_true_iff, G.t.injEq, List.cons.injEq, G.s.injEq]
      rw [stands_t, Bool.and_eq_true_iff] at ha hb
      by_cases exy : x = y
      · subst exy
        have hps : ∀ r ∈ opG L x ps, dp r ≤ n ∧ stands L r = true := opG_mem (fun p hp => dp_mem hd' (List.mem_cons_of_mem _ hp)) fun p hp => List.all_eq_true.mp ha.2 p hp
        have hqs : ∀ r ∈ opG L x qs, dp r ≤ maxl (qs.map dp) ∧ stands L r = true := opG_mem le_dps fun p hp => List.all_eq_true.mp hb.2 p hp
        have hf : ∀ p ∈ opG L x ps, ∀ q ∈ opG L x qs, areN L n p q = true ↔ laid L p = laid L q := fun p hp q hq => ih p q (hps p hp).1 (hps p hp).2 (hqs q hq).2
        obtain ⟨o1, p1⟩ := arr_op (L := L) (h := x) (ps := ps)
        obtain ⟨o2, p2⟩ := arr_op (L := L) (h := x) (ps := qs)
        cases el : loose (kindOf L x) with
        | false =>
          rw [o1 el, o2 el]
          simp only [Bool.false_eq_true, if_false, true_and]
          rw [allPairs_iff (laid L) _ _ _ hf]
          refine ⟨fun z => z.2, fun z => ⟨?_, z⟩⟩
          simpa using congrArg List.length z
        | true =>
          simp only [if_true, true_and]
          have e1 : ∀ rs, arr (kindOf L x) x rs = sortT (opn (kindOf L x) x rs) := fun rs => by unfold arr; rw [if_pos el]
          rw [e1, e1]
          constructor
          · rintro ⟨hl, hm⟩
            have pm := (match_perm (laid L) _ _ _ hf hl).mp hm
            refine sortT_eq (fun g hg => ?_) (p1.trans (pm.trans p2.symm))
            obtain ⟨r, hr, rfl⟩ := List.mem_map.mp (p1.mem_iff.mp hg)
            exact gok_laid _ r (Nat.le_refl _) (stands_gok ok _ r (Nat.le_refl _) (hps r hr).2)
          · intro z
            have pm : ((opG L x ps).map (laid L)).Perm ((opG L x qs).map (laid L)) := p1.symm.trans (((sortT_perm _).symm.trans (z ▸ sortT_perm _)).trans p2)
            have hl : (opG L x ps).length = (opG L x qs).length := by simpa using pm.length_eq
            exact ⟨hl, (match_perm (laid L) _ _ _ hf hl).mpr pm⟩
      · simp [exy]
end K1
set_option Elab.async false
set_option linter.all false
set_option maxRecDepth 100000
set_option maxHeartbeats 1000000
namespace K1
open PySem PySem.Spec PyProof.Rows L2
/-! ### drawn terms stand and are laid; told otherwise they are laid alike -/
structure Std (L : List Ln) (g : G) : Prop where
  st : stands L g = true
  ld : laid L g = g
theorem find_nd : ∀ {L : List Ln} {l : Ln}, (L.map (·.1)).Nodup → l ∈ L → find L l.1 = some l
  | m :: L, l, hn, hm => by
    rw [List.map_cons, List.nodup_cons] at hn
    unfold find
    by_cases e : m.1 = l.1
    · rw [if_pos e]
      rcases List.mem_cons.mp hm with rfl | hm
      · rfl
      · exact absurd (List.mem_map.mpr ⟨l, hm, e.symm⟩) hn.1
    · rw [if_neg e]
      rcases List.mem_cons.mp hm with rfl | hm
      · exact absurd rfl e
      · exact find_nd hn.2 hm
theorem kindOf_of {L : List Ln} {x : Str} {l : Ln} (h : find L x = some l) : kindOf L x = l.2.1 := by unfold kindOf; rw [h]
theorem stands_s (L : List Ln) (x : Str) : stands L (.s x) = gapB x := by rw [stands]
theorem std_str {L : List Ln} {x : Str} (h : gapB x = true) : Std L (.s x) := ⟨by rw [stands_s]; exact h, laid_s L x⟩
theorem arr_nil (k h : Str) : arr k h [] = [] := by
  have e : opn k h [] = [] := by unfold opn flat; split <;> rfl
  unfold arr
  rw [e]
  split
  · exact List.Perm.eq_nil (sortT_perm [])
  · rfl
theorem std_one {L : List Ln} {x : Str} {l : Ln} (h : find L x = some l) (h1 : l.2.1 = "plain") (h2 : l.2.2 = 0) : Std L (.t [.s x]) := by
  refine ⟨?_, by rw [laid_t, List.map_nil, arr_nil]⟩
  rw [stands_t]
  simp only [hasParts, h, h1, h2, List.all_nil, Bool.and_true, List.length_nil]
  rfl
theorem hasParts_le {L : List Ln} (ok : LOk L) {x : Str} {n : Nat} (h : hasParts L (.s x) n = true) : n ≤ 8 := by
  cases hf : find L x with
  | none => simp [hasParts, hf] at h
  | some l =>
    simp only [hasParts, hf] at h
    have := ok.sm l (find_mem hf).1
    split at h
    · exact (of_decide_eq_true h).2
    · have := of_decide_eq_true h
      omega
theorem stands_wide {L : List Ln} (ok : LOk L) (n : Nat) : ∀ g, dp g ≤ n → stands L g = true → wide g ≤ 8 := by
  induction n with
  | zero =>
    intro g h
    have := dp_pos g
    omega
  | succ n ih =>
    intro g hd' hg
    obtain ⟨hs, _⟩ := stands_shp _ g (Nat.le_refl _) hg
    rcases shp_cases hs with ⟨x, rfl⟩ | ⟨x, ps, rfl, hp⟩
    · simp [wide]
    · rw [stands_t, Bool.and_eq_true_iff] at hg
      rw [wide_t]
      have h1 := hasParts_le ok hg.1
      have h2 : maxl (ps.map wide) ≤ 8 := maxl_le.mpr fun m hm => by
        obtain ⟨p, hp, rfl⟩ := List.mem_map.mp hm
        exact ih p (dp_mem hd' (List.mem_cons_of_mem _ hp)) (List.all_eq_true.mp hg.2 p hp)
      omega
theorem sortT_take {qs : List G} (n : Nat) (h : sortT qs = qs) : sortT (qs.take n) = qs.take n := by
  have pw : qs.Pairwise (fun a b => SrtF.leK text a b = true) := by
    rw [← h]
    refine List.pairwise_mergeSort (fun a b c h1 h2 => ?_) (fun a b => ?_) qs
    · rw [leK_is] at h1 h2 ⊢
      exact decide_eq_true (List.le_trans (of_decide_eq_true h1) (of_decide_eq_true h2))
    · rw [leK_is]
      rcases List.le_total (text a).cps.toList (text b).cps.toList with h | h
      · simp [h]
      · simp [h]
  exact List.mergeSort_of_pairwise (pw.sublist (List.take_sublist n qs))
/-- a laid term of drawn parts, its first parts -/
theorem std_cut {L : List Ln} (ok : LOk L) {x : Str} {gs as : List G} (hT : stands L (.t (.s x :: gs)) = true) (hg : ∀ p ∈ gs, Std L p) (e : as = arr (kindOf L x) x gs) : Std L (.t (.s x :: as.take 8)) := by
  have em : gs.map (laid L) = gs := (List.map_congr_left fun p hp => (hg p hp).ld).trans (List.map_id _)
  have el : laid L (.t (.s x :: gs)) = .t (.s x :: as) := by rw [laid_t, em, e]
  have hq := laid_q L _ (.t (.s x :: gs)) (Nat.le_refl _)
  rw [el] at hq
  obtain ⟨q1, q2⟩ := hq.2 x as rfl
  rw [stands_t, Bool.and_eq_true_iff] at hT
  obtain ⟨t1, t2⟩ := hT
  have hlen := (arr_perm (kindOf L x) x gs).length_eq
  rw [← e] at hlen
  have h8 := hasParts_le ok t1
  constructor
  · rw [stands_t, Bool.and_eq_true_iff]
    refine ⟨?_, List.all_eq_true.mpr fun r hr => ?_⟩
    · cases hf : find L x with
      | none => simp [hasParts, hf] at t1
      | some l =>
        have ek := kindOf_of hf
        simp only [hasParts, hf] at t1 ⊢
        by_cases er : rowish l.2.1 = true
        · rw [if_pos er] at t1 ⊢
          have h2 := of_decide_eq_true t1
          have eo : opn (kindOf L x) x gs = flat x gs := by unfold opn; rw [ek, if_pos er]
          have h3 : gs.length ≤ (flat x gs).length := flat_len2 fun q hq' => by
            by_cases e : ∃ rs, q = .t (.s x :: rs)
            · obtain ⟨rs, rfl⟩ := e
              have hs := List.all_eq_true.mp t2 _ hq'
              rw [stands_t, Bool.and_eq_true_iff] at hs
              have h4 := hs.1
              simp only [hasParts, hf, if_pos er] at h4
              have := of_decide_eq_true h4
              simp [oneP]
              omega
            · rw [oneP_no (fun rs z => e ⟨rs, z⟩)]
              simp
          rw [eo] at hlen
          rw [List.length_take]
          exact decide_eq_true (by omega)
        · rw [if_neg er] at t1 ⊢
          have eo : opn (kindOf L x) x gs = gs := by unfold opn; rw [ek, if_neg er]
          rw [eo] at hlen
          rw [List.length_take, hlen, Nat.min_eq_right h8]
          exact t1
    · have hr' := List.mem_of_mem_take hr
      rw [e] at hr'
      rcases arr_mem hr' with hr' | ⟨rs, h1, h2⟩
      · exact (hg r hr').st
      · have hs := (hg _ h1).st
        rw [stands_t, Bool.and_eq_true_iff] at hs
        exact List.all_eq_true.mp hs.2 r h2
  · have em2 : (as.take 8).map (laid L) = as.take 8 := (List.map_congr_left fun p hp => q1 p (List.mem_of_mem_take hp)).trans (List.map_id _)
    rw [laid_t, em2]
    have ho : opn (kindOf L x) x (as.take 8) = as.take 8 := by
      unfold opn
      split
      · next er => exact flat_no fun r hr => q2 er r (List.mem_of_mem_take hr)
      · rfl
    have ea : arr (kindOf L x) x (as.take 8) = as.take 8 := by
      unfold arr
      rw [ho]
      split
      · next eo =>
        refine sortT_take 8 ?_
        rw [e]
        unfold arr
        rw [if_pos eo]
        exact sortT_idem _
      · rfl
    rw [ea]
/-- the same thing told otherwise: it stands, and is laid alike -/
theorem opn_perm {k y : Str} {gs hs : List G} (p : gs.Perm hs) : (opn k y gs).Perm (opn k y hs) := by
  unfold opn
  split
  · exact p.flatMap_right _
  · exact p
theorem arr_permL {k y : Str} {gs hs : List G} (hg : ∀ g ∈ gs, gok g = true) (el : loose k = true) (p : gs.Perm hs) : arr k y gs = arr k y hs := by
  unfold arr
  rw [if_pos el, if_pos el]
  refine sortT_eq (fun g hg' => ?_) (opn_perm p)
  rcases opn_mem hg' with h | ⟨rs, h1, h2⟩
  · exact hg g h
  · have := hg _ h1
    rw [gok_t, Bool.and_eq_true_iff] at this
    exact List.all_eq_true.mp this.2 g h2
theorem flat_app (y : Str) (as bs : List G) : flat y (as ++ bs) = flat y as ++ flat y bs := by unfold flat; rw [List.flatMap_append]
/-- parts from a up to e in a row of their own -/
theorem arr_group {L : List Ln} {y : Str} {gs : List G} {a e : Nat} (hg : ∀ g ∈ gs, gok (laid L g) = true) (er : rowish (kindOf L y) = true) (hy : nameB y = true) (ha : a ≤ e) :
    arr (kindOf L y) y ((gs.take a ++ [G.t (.s y :: (gs.drop a).take (e - a))] ++ gs.drop e).map (laid L)) = arr (kindOf L y) y (gs.map (laid L)) := by
  have key : gs.map (laid L) = (gs.take a).map (laid L) ++ ((gs.drop a).take (e - a)).map (laid L) ++ (gs.drop e).map (laid L) := by
    rw [← List.map_append, ← List.map_append]
    congr 1
    have h1 : gs.drop a = (gs.drop a).take (e - a) ++ gs.drop e := by
      have := (List.take_append_drop (e - a) (gs.drop a)).symm
      rw [List.drop_drop, show a + (e - a) = e by omega] at this
      exact this
    rw [List.append_assoc, ← h1, List.take_append_drop]
  have hq : ∀ q ∈ (gs.take a ++ [G.t (.s y :: (gs.drop a).take (e - a))] ++ gs.drop e).map (laid L), gok q = true := fun q hq => by
    obtain ⟨p, hp, rfl⟩ := List.mem_map.mp hq
    rcases List.mem_append.mp hp with hp | hp
    · rcases List.mem_append.mp hp with hp | hp
      · exact hg p (List.mem_of_mem_take hp)
      · rw [List.mem_singleton.mp hp, laid_t, gok_t, hy, Bool.true_and]
        refine List.all_eq_true.mpr fun r hr => ?_
        have hm : ∀ q ∈ ((gs.drop a).take (e - a)).map (laid L), gok q = true := fun q hq => by
          obtain ⟨p, hp, rfl⟩ := List.mem_map.mp hq
          exact hg p (List.mem_of_mem_drop (List.mem_of_mem_take hp))
        rcases arr_mem hr with hr | ⟨rs, h1, h2⟩
        · exact hm r hr
        · have := hm _ h1
          rw [gok_t, Bool.and_eq_true_iff] at this
          exact List.all_eq_true.mp this.2 r h2
    · exact hg p (List.mem_of_mem_drop hp)
  rw [List.map_append, List.map_append, List.map_cons, List.map_nil, laid_t]
  have one : oneP y (.t (.s y :: arr (kindOf L y) y (((gs.drop a).take (e - a)).map (laid L)))) = arr (kindOf L y) y (((gs.drop a).take (e - a)).map (laid L)) := by simp [oneP]
  have f1 : flat y [G.t (.s y :: arr (kindOf L y) y (((gs.drop a).take (e - a)).map (laid L)))] = arr (kindOf L y) y (((gs.drop a).take (e - a)).map (laid L)) := by
    unfold flat
    rw [List.flatMap_cons, one, List.flatMap_nil, List.append_nil]
  have oo : ∀ qs, opn (kindOf L y) y qs = flat y qs := fun qs => by unfold opn; rw [if_pos er]
  have pp : (opn (kindOf L y) y ((gs.take a).map (laid L) ++ [G.t (.s y :: arr (kindOf L y) y (((gs.drop a).take (e - a)).map (laid L)))] ++ (gs.drop e).map (laid L))).Perm (opn (kindOf L y) y (gs.map (laid L))) := by
    rw [oo, oo, key, flat_app, flat_app, flat_app, flat_app, f1]
    refine (List.Perm.append_left _ ?_).append_right _
    rw [← oo]
    exact arr_perm _ _ _
  by_cases el : loose (kindOf L y) = true
  · have ea : ∀ qs, arr (kindOf L y) y qs = sortT (opn (kindOf L y) y qs) := fun qs => by unfold arr; rw [if_pos el]
    rw [ea (_ ++ _), ea (gs.map (laid L))]
    refine sortT_eq (fun g hg' => ?_) pp
    rw [List.map_append, List.map_append, List.map_cons, List.map_nil, laid_t] at hq
    rcases opn_mem hg' with h | ⟨rs, h1, h2⟩
    · exact hq g h
    · have := hq _ h1
      rw [gok_t, Bool.and_eq_true_iff] at this
      exact List.all_eq_true.mp this.2 g h2
  · have ea : ∀ qs, arr (kindOf L y) y qs = flat y qs := fun qs => by unfold arr; rw [if_neg el, oo]
    rw [ea (_ ++ _), ea (gs.map (laid L)), key, flat_app, flat_app, f1, flat_app, flat_app, ea]
/-- what a draft of a drawn term is -/
structure Dft (L : List Ln) (g g' : G) : Prop where
  st : stands L g' = true
  ld : laid L g' = laid L g
theorem lay0_of {L : List Ln} (ok : LOk L) {g g' : G} (hg : Std L g) (h : Dft L g g') (p1 : points g' ≤ 80) (p2 : deep g' ≤ 12) (p3 : points g ≤ 80) (p4 : deep g ≤ 12) : lay0 L g' = true := by
  unfold lay0
  rw [h.st, h.ld, hg.ld, decide_eq_true p1, decide_eq_true p2]
  have := stands_wide ok _ g (Nat.le_refl _) hg.st
  unfold beyond
  rw [decide_eq_false (show ¬ 80 < points g by omega), decide_eq_false (show ¬ 12 < deep g by omega), decide_eq_false (show ¬ 8 < wide g by omega)]
  rfl
end K1
set_option Elab.async false
set_option linter.all false
set_option maxRecDepth 100000
set_option maxHeartbeats 2000000
namespace K1
open PySem PySem.Spec PyProof.Rows L2
open PySem.W (EachIs)
/-! ### a heap with some places hidden -/
def hid (ls : List Addr) (H : Hp) : Hp := fun a => if a ∈ ls then none else H a
theorem hid_at {ls : List Addr} {H : Hp} {a : Addr} (h : a ∉ ls) : hid ls H a = H a := if_neg h
theorem hid_of {ls : List Addr} {H H' : Hp} (h : ∀ a o, a ∉ ls → H a = some o → H' a = some o) : Same (hid ls H) (hid ls H') := fun b o e => by
  unfold hid at e ⊢
  by_cases hb : b ∈ ls
  · rw [if_pos hb] at e
    cases e
  · rw [if_neg hb] at e ⊢
    exact h b o hb e
theorem hid_le {ls : List Addr} {H : Hp} : Same (hid ls H) H := fun b o e => by
  unfold hid at e
  by_cases hb : b ∈ ls
  · rw [if_pos hb] at e
    cases e
  · rw [if_neg hb] at e
    exact e
theorem hid_same {ls : List Addr} {H H' : Hp} (s : Same H H') : Same (hid ls H) (hid ls H') := hid_of fun a o _ e => s a o e
theorem hid_ext {ls : List Addr} {H H' : Hp} (s : Ext H H') : Ext (hid ls H) (hid ls H') := fun b o e n => by
  unfold hid at e ⊢
  by_cases hb : b ∈ ls
  · rw [if_pos hb] at e
    cases e
  · rw [if_neg hb] at e ⊢
    exact s b o e n
theorem hid_get {d g x : Addr} {H : Hp} {o : HO} (xd : x ≠ d) (xg : x ≠ g) (e : H x = some o) : hid [d, g] H x = some o := by
  rw [hid_at (by simp only [List.mem_cons, List.not_mem_nil, or_false, not_or]; exact ⟨xd, xg⟩)]
  exact e
theorem tabs_kp {T : List (Addr × Str)} {d g c : Addr} {t : Nat} {H H' : Hp} (G : Gen d g c t H) (k : Kp d g H H') (h : LamX.Tabs T H) : LamX.Tabs T H' := fun p hp => by
  obtain ⟨_, _, _, _, _, e1, e2, _⟩ := G
  obtain ⟨ps, h1, h2, h3⟩ := h p hp
  have off : ∀ {b : Addr} {o : HO}, H b = some o → (∀ kvs, o ≠ .dK kvs) → (∀ xs, o ≠ .lst xs) → H' b = some o := fun {b o} e n1 n2 =>
    k b o (fun z => by rw [z, e1] at e; exact n1 _ (Option.some.inj e).symm) (fun z => by rw [z, e2] at e; exact n2 _ (Option.some.inj e).symm) e
  refine ⟨ps, off h1 (by intro _ z; cases z) (by intro _ z; cases z), h2, fun pos cv hc => ?_⟩
  obtain ⟨cc, rfl, e⟩ := h3 pos cv hc
  exact ⟨cc, rfl, off e (by intro _ z; cases z) (by intro _ z; cases z)⟩
theorem Gen.ext {d g c : Addr} {t : Nat} {H H' : Hp} (G : Gen d g c t H) (s : Ext H H') : Gen d g c t H' := by
  obtain ⟨n, gs, cs, r, u, e1, e2, e3, e4⟩ := G
  exact ⟨n, gs, cs, r, u, s _ _ e1 (by intro _ z; cases z), s _ _ e2 (by intro _ z; cases z), s _ _ e3 (by intro _ z; cases z), e4⟩
/-- all but what is drawn from, and the tables, stands -/
def Kn (d g : Addr) (H H' : Hp) : Prop := ∀ b o, b ≠ d → b ≠ g → H b = some o → (∀ ps, o ≠ .tbl ps) → H' b = some o
theorem Kn.refl {d g : Addr} {H : Hp} : Kn d g H H := fun _ _ _ _ h _ => h
theorem Kn.trans {d g : Addr} {H H1 H2 : Hp} (a : Kn d g H H1) (b : Kn d g H1 H2) : Kn d g H H2 := fun x o h1 h2 e n => b x o h1 h2 (a x o h1 h2 e n) n
theorem Kn.kp {d g : Addr} {H H1 : Hp} (a : Kp d g H H1) : Kn d g H H1 := fun x o h1 h2 e _ => a x o h1 h2 e
theorem Kn.ext {d g : Addr} {H H1 : Hp} (a : Ext H H1) : Kn d g H H1 := fun x o _ _ e n => a x o e n
theorem Kn.same {d g : Addr} {H H1 : Hp} (a : Same H H1) : Kn d g H H1 := fun x o _ _ e _ => a x o e
theorem Kn.new {d g p : Addr} {o : HO} {H H1 : Hp} (a : Kn d g H H1) (h : H1 p = none) : Kn d g H (upd H1 p o) := a.trans (.same (Same.new (Same.refl H1) h))
theorem Kn.hid {d g : Addr} {H H1 : Hp} (a : Kn d g H H1) : Ext (hid [d, g] H) (hid [d, g] H1) := fun b o e n => by
  unfold K1.hid at e ⊢
  by_cases hb : b ∈ [d, g]
  · rw [if_pos hb] at e
    cases e
  · rw [if_neg hb] at e ⊢
    simp only [List.mem_cons, List.not_mem_nil, or_false, not_or] at hb
    exact a b o hb.1 hb.2 e n
structure Wd (TT : List (Addr × Str)) (d g c : Addr) (t : Nat) (H : Hp) : Prop where
  G : Gen d g c t H
  T : LamX.Tabs TT H
theorem Wd.same {TT : List (Addr × Str)} {d g c : Addr} {t : Nat} {H H' : Hp} (w : Wd TT d g c t H) (s : Same H H') : Wd TT d g c t H' := ⟨w.G.same s, w.T.ext s⟩
theorem Wd.new {TT : List (Addr × Str)} {d g c p : Addr} {o : HO} {t : Nat} {H : Hp} (w : Wd TT d g c t H) (h : H p = none) : Wd TT d g c t (upd H p o) := w.same (Same.new (Same.refl H) h)
theorem Wd.ext {TT : List (Addr × Str)} {d g c : Addr} {t : Nat} {H H' : Hp} (w : Wd TT d g c t H) (s : Ext H H') (h : LamX.Tabs TT H') : Wd TT d g c t H' := ⟨w.G.ext s, h⟩
theorem Wd.kp {TT : List (Addr × Str)} {d g c : Addr} {t t' : Nat} {H H' : Hp} (w : Wd TT d g c t H) (G : Gen d g c t' H') (k : Kp d g H H') : Wd TT d g c t' H' := ⟨G, tabs_kp w.G k w.T⟩
theorem Wd.mono {TT : List (Addr × Str)} {d g c : Addr} {t t' : Nat} {H : Hp} (w : Wd TT d g c t H) (h : t ≤ t') : Wd TT d g c t' H := ⟨w.G.mono h, w.T⟩
theorem Gen.tup {d g c a : Addr} {t : Nat} {H : Hp} {o : HO} (G : Gen d g c t H) (e : H a = some o) (h : (∃ xs, o = .tup xs) ∨ ∃ ob xs, o = .frz ob (.tup xs)) : a ≠ d ∧ a ≠ g := by
  obtain ⟨_, _, _, _, _, e1, e2, _⟩ := G
  refine ⟨fun z => ?_, fun z => ?_⟩
  · rw [z, e1] at e
    cases e
    rcases h with ⟨_, z⟩ | ⟨_, _, z⟩ <;> cases z
  · rw [z, e2] at e
    cases e
    rcases h with ⟨_, z⟩ | ⟨_, _, z⟩ <;> cases z
theorem Gen.tk {d g c : Addr} {t : Nat} {H H' : Hp} (G : Gen d g c t H) (k : Kn d g H H') : TupK H H' := fun b o e h => by
  obtain ⟨n1, n2⟩ := G.tup e h
  exact k b o n1 n2 e (by
    rintro ps rfl
    rcases h with ⟨_, z⟩ | ⟨_, _, z⟩ <;> cases z)
theorem Gen.tkh {d g c : Addr} {t : Nat} {H : Hp} (G : Gen d g c t H) : TupK H (hid [d, g] H) := fun b o e h => by
  obtain ⟨n1, n2⟩ := G.tup e h
  exact hid_get n1 n2 e
theorem Wd.off {TT : List (Addr × Str)} {d g c p : Addr} {zs : List V} {o : HO} {t : Nat} {H : Hp} (w : Wd TT d g c t H) (e : H p = some (.lst zs)) (hd : p ≠ d) (hg : p ≠ g) (hc : p ≠ c) : Wd TT d g c t (upd H p o) := ⟨w.G.off hd hg hc, tabs_offL w.T e⟩
/-- a term of these signs -/
structure Ok (L : List Ln) (g : G) : Prop where
  wf : wfn L g = true
  fine : fine g = true
theorem Ok.shp {L : List Ln} {g : G} (h : Ok L g) : shp g = true := wfn_shp _ g (Nat.le_refl _) h.wf
theorem sz_pts (n : Nat) : ∀ g, dp g ≤ n → shp g = true → sz g ≤ 2 * points g ∧ dp g ≤ deep g + 1 := by
  induction n with
  | zero =>
    intro g h
    have := dp_pos g
    omega
  | succ n ih =>
    intro g hd hs
    rcases shp_cases hs with ⟨x, rfl⟩ | ⟨x, ps, rfl, hp⟩
    · have h1 := points_pos (.s x)
      have h2 := deep_pos (.s x)
      rw [sz_s, dp_s]
      omega
    · have key : ∀ p ∈ ps, sz p ≤ 2 * points p ∧ dp p ≤ deep p + 1 := fun p hm => ih p (dp_mem hd (List.mem_cons_of_mem _ hm)) (hp p hm)
      have h1 : (ps.map sz).sum ≤ (ps.map fun p => 2 * points p).sum := sum_map_le fun p hm => (key p hm).1
      have h2 : (ps.map fun p => 2 * points p).sum = 2 * (ps.map points).sum := by
        rw [← sum_mul, List.map_map]
        rfl
      have h3 : maxl (ps.map dp) ≤ maxl (ps.map deep) + 1 := maxl_le.mpr fun m hm => by
        obtain ⟨p, hp, rfl⟩ := List.mem_map.mp hm
        have h4 := (key p hp).2
        have h5 := le_maxl (List.mem_map.mpr ⟨p, hp, rfl⟩ : deep p ∈ ps.map deep)
        omega
      rw [sz_ts, dp_ts, points_t, deep_t]
      omega
theorem Ok.sz {L : List Ln} {g : G} (h : Ok L g) : sz g ≤ 2 * points g := (sz_pts _ g (Nat.le_refl _) h.shp).1
theorem Ok.dp {L : List Ln} {g : G} (h : Ok L g) : dp g ≤ deep g + 1 := (sz_pts _ g (Nat.le_refl _) h.shp).2
theorem Ok.one {L : List Ln} {x : Str} (h : (find L x).isSome = true) (hf : x.length ≤ 10 ∧ PyData.strOk x = true) : Ok L (.t [.s x]) := by
  refine ⟨by rw [wfn_t, h]; rfl, fine_mk fun p hp => ?_⟩
  rw [List.mem_singleton.mp hp, K1.fine]
  simp [hf.1, hf.2]
theorem Ok.str {L : List Ln} {x : Str} (hf : x.length ≤ 10 ∧ PyData.strOk x = true) : Ok L (.s x) := by
  refine ⟨by rw [wfn], ?_⟩
  rw [K1.fine]
  simp [hf.1, hf.2]
theorem name_strOk {z : Str} (h : nameB z = true) : PyData.strOk z = true := by
  unfold nameB at h
  rw [Bool.and_eq_true, List.all_eq_true] at h
  show z.cps.all (· < 0x110000) = true
  rw [Array.all_eq_true_iff_forall_mem]
  intro c hc
  have := h.2 c (by simpa using hc)
  unfold isLow at this
  rw [decide_eq_true_iff] at this
  rw [decide_eq_true_iff]
  omega
theorem name_fine {z : Str} (h : nameB z = true) : z.length ≤ 10 ∧ PyData.strOk z = true := by
  have := name_len h
  exact ⟨by omega, name_strOk h⟩
abbrev sLeaf : Stmt := topS 56
abbrev nLeaf : List Str := ["_law_state", "_law_rows", "_law_blanks", "_law_some", "_law_name", "_law_kind", "_law_many"]
/-- a leaf, by its promise of what is drawn -/
def Leaf (K : PySem.W.Frag) (L : List Ln) (H : Hp) (y : V) : Prop := ∃ g, In K H y g ∧ Ok L g ∧ points g = 1 ∧ deep g = 1 ∧ Std L g
theorem Leaf.tk {K : PySem.W.Frag} {L : List Ln} {H H' : Hp} {y : V} (h : Leaf K L H y) (s : TupK H H') : Leaf K L H' y := by
  obtain ⟨g, h1, h2, h3⟩ := h
  exact ⟨g, in_tk s _ _ h2.shp h1, h2, h3⟩
structure Blk (bs : List Str) : Prop where
  ne : bs ≠ []
  len : bs.length ≤ 10
  ok : ∀ b ∈ bs, b.length ≤ 10 ∧ PyData.strOk b = true
  gp : ∀ b ∈ bs, gapB b = true
def spLeaf (K : PySem.W.Frag) (TT : List (Addr × Str)) : Sp := fun vs H Q _ => ∃ (d g c ll bl : Addr) (t : Nat) (L : List Ln) (bs : List Str), vs = [.ref d, .ref ll, .ref bl] ∧ Wd TT d g c t H ∧ t + 1 < 2 ^ 30 ∧ Lst K (hid [d, g] H) ll L ∧ LOk L ∧ (L.map (·.1)).Nodup ∧ SqL K (hid [d, g] H) bl (bs.map V.str) ∧ Blk bs ∧
  ∀ v H', Leaf K L H' v → Wd TT d g c (t + 1) H' → Kn d g H H' → Q v H'
section
variable {P : Program} {w : World} {K : PySem.W.Frag} {mg : Str → Option Value} {base : Heap}
theorem scLeaf : FnScope nLeaf ["_law_state", "_law_rows", "_law_blanks"] (defScope sLeaf) := ⟨rfl, rfl, rfl, by decide +kernel, rfl, by decide +kernel, by decide +kernel⟩
theorem ok_leaf {f : Addr} {fd : FuncData} {TT : List (Addr × Str)} (F : Fun K "_law_leaf" "_law_leaf" sLeaf f fd) (DP : Df P w K mg base C8.CX0 "_law_pick" 3 ["_law_state", "_law_some"] spPick) (T : Ct mg) : FnOk P w K mg base C8.CX0 4 f fd ["_law_state", "_law_rows", "_law_blanks"] (spLeaf K TT) := by
  refine F.ok scLeaf (fun vs H Q E h => ?_) (fun cdv A outer s H vs Q E hr h => ?_)
  · obtain ⟨d, g, c, ll, bl, t, L, bs, rfl, _⟩ := h
    rfl
  · obtain ⟨d, g, c, ll, bl, t, L, bs, rfl, W, ht, hL, ok, hnd, hB, hbs, k⟩ := h
    refine ⟨_, pss_cons (ps_setLc (i := 3) (own := [("_law_name", 4), ("_law_kind", 5), ("_law_many", 6)]) (g := gTup K 3 (gCons (gName 4) (gCons (gName 5) (gCons (gName 6) gNil)))) rfl scLeaf.nd rfl rfl (sw_true rfl rfl rfl (by decide +kernel)) (pi_list (pv 1)) (blkOk_by (N := nLeaf) (sc := defScope sLeaf) (by decide +kernel))
        (fun _ _ _ _ _ => pg_tup rfl (pgs_cons (pg_name (i := 4) scLeaf.nd rfl (Or.inl rfl)) (pgs_cons (pg_name (i := 5) scLeaf.nd rfl (Or.inl rfl)) (pgs_cons (pg_name (i := 6) scLeaf.nd rfl (Or.inl rfl)) pgs_nil))))
        (fun _ _ _ _ _ => pts_one (PW.pt (pw_and (pt_cmpR op_eq (pv 5) pe_str (nomark _)) (pw_and1 (pt_cmpR op_eq (pv 6) pe_int (nomark _))))))
        (fun _ _ _ _ _ => pe_tup (pa_cons (pv 4) pa_nil)))
      (pss_one (ps_ret (pe_df DP hr pass0 (pa_cons (pv 0) (pa_cons (pe_op op_cat (pv 3) (pe_callTy call_list_of (by rfl) T.list boot_list (pa_cons (pv 2) pa_nil))) pa_nil))))), ?_⟩
    obtain ⟨xs, hx, hd⟩ := hL
    have hxl : xs.length = L.length := by
      have := dpAll_len hd
      rw [List.length_map] at this
      exact this
    have hLl := ok.len
    have hx' : SqL K H ll xs := hid_le.seq hx
    refine ⟨_, rfl, ll, rfl, ⟨_, hx'⟩, fun D hD => ?_⟩
    obtain ⟨Dd, Dg⟩ := W.G.nd hD
    have s0 := Same.new (o := .lst []) (Same.refl H) hD
    refine lc_list (K := K) (a := ll) (xs := xs) (fun i H' => Same H H' ∧ ∃ ys : List V, H' D = some (.lst ys) ∧ ys.length ≤ i ∧ ∀ y ∈ ys, Leaf K L H' y)
      ⟨s0, [], upd_same, Nat.le_refl _, fun y hy => by cases hy⟩ (fun i H' _ ⟨sm, _⟩ => sm.seq hx') ?_ ?_
    · rintro i x H' hi ⟨sm, ys, eD, hyl, hys⟩
      obtain ⟨l, hli, hld⟩ := dpr_at hd hi
      have hlm := List.mem_of_getElem? hli
      have hil := (List.getElem?_eq_some_iff.mp hli).1
      obtain ⟨b, rfl, hb⟩ := row_at (dp_same (hid_le.trans sm) _ _ hld)
      refine ⟨b, _, rfl, hb, rfl, _, _, rfl, _, _, rfl, _, _, rfl, rfl, rfl, _, rfl, rfl, _, rfl, ?_⟩
      have stay : Same H H' ∧ ∃ ys : List V, H' D = some (.lst ys) ∧ ys.length ≤ i + 1 ∧ ∀ y ∈ ys, Leaf K L H' y := ⟨sm, ys, eD, Nat.le_succ_of_le hyl, hys⟩
      refine ite2 (fun h1 => ?_) (fun h1 => iteF stay)
      refine ⟨_, rfl, rfl, _, rfl, ?_⟩
      refine ite2 (fun h2 => ?_) (fun h2 => stay)
      refine ⟨_, rfl, (by show 1 ≤ sizeLine; decide), fun q hq => ?_⟩
      have nD : D ≠ q := ne_of_none eD hq
      have sq := Same.new (o := .tup [.str l.1]) (Same.refl H') hq
      have hLl2 : ys.length ≤ 24 := by omega
      refine ⟨ys, sq _ _ eD, by rw [sizeLine_eq]; omega, ?_, ys ++ [.ref q], upd_same, by rw [List.length_append]; exact Nat.succ_le_succ hyl, fun y hy => ?_⟩
      · exact fun c' o e => by
          rw [upd_ne (ne_of_none e hD)]
          exact sq _ _ (sm _ _ e)
      · have off : TupK H' (upd (upd H' q (.tup [.str l.1])) D (.lst (ys ++ [.ref q]))) := (TupK.of (Ext.of sq)).off (sq _ _ eD)
        rcases List.mem_append.mp hy with hy | hy
        · exact (hys y hy).tk off
        · rw [List.mem_singleton.mp hy]
          have hfs : (find L l.1).isSome = true := by
            cases e : find L l.1 with
            | none => exact absurd (List.mem_map.mpr ⟨l, hlm, rfl⟩) (find_none.mp e)
            | some _ => rfl
          exact ⟨.t [.s l.1], .t (SqT.of (by rw [upd_ne nD.symm, upd_same])) (.cons (.s _) .nil), Ok.one hfs (name_fine (ok.nm l hlm)), by rw [points_t]; rfl, by rw [deep_t]; rfl, std_one (find_nd hnd hlm) (V.str.inj (of_decide_eq_true h1)) (by have := V.int.inj (of_decide_eq_true h2); omega)⟩
    · rintro H' ⟨sm, ys, eD, hyl, hys⟩
      have hB' : SqL K H' bl (bs.map V.str) := (hid_le.trans sm).seq hB
      have hbl := hbs.len
      have hbn := hbs.ne
      refine ⟨_, rfl, _, rfl, _, rfl, bl, _, rfl, .inl hB', fun l2 hl2 => ?_⟩
      have s2 := Same.new (o := .lst (bs.map V.str)) (Same.refl H') hl2
      refine ⟨D, l2, ys, _, rfl, rfl, s2 _ _ eD, upd_same, by rw [List.length_map, sizeLine_eq]; omega, fun p hp => ?_⟩
      have s3 := Same.new (o := .lst (ys ++ bs.map V.str)) s2 hp
      have sA := sm.trans s3
      have WA := W.same sA
      obtain ⟨pd, pg⟩ := (W.same (sm.trans s2)).G.nd hp
      refine ⟨d, g, c, p, t, _, rfl, WA.G, by omega, upd_same, pg, ?_, ?_, fun v H2 hv G2 k2 => ?_⟩
      · intro z
        have := congrArg List.length z
        simp at this
        exact hbn this.2
      · rw [List.length_append, List.length_map]
        omega
      · refine k v H2 ?_ (WA.kp G2 k2) ((Kn.same sA).trans (.kp k2))
        rcases List.mem_append.mp hv with hv | hv
        · exact (hys v hv).tk ((TupK.of (Ext.of s3)).trans (WA.G.tk (.kp k2)))
        · obtain ⟨b, hb, rfl⟩ := List.mem_map.mp hv
          exact ⟨.s b, .s b, Ok.str (hbs.ok b hb), by simp [points], by simp [deep], std_str (hbs.gp b hb)⟩
end
end K1
set_option Elab.async false
set_option linter.all false
set_option maxRecDepth 100000
set_option maxHeartbeats 2000000
namespace K1
open PySem PySem.Spec PyProof.Rows L2
open PySem.W (EachIs)
theorem Kn.updD {d g p : Addr} {o : HO} {H H1 : Hp} (a : Kn d g H H1) (h : H p = none) : Kn d g H (upd H1 p o) := fun x u h1 h2 e n => by
  rw [upd_ne (ne_of_none e h)]
  exact a x u h1 h2 e n
theorem hid_got {d g x : Addr} {H : Hp} {o : HO} (e : hid [d, g] H x = some o) : x ≠ d ∧ x ≠ g ∧ H x = some o := by
  unfold hid at e
  by_cases h : x ∈ [d, g]
  · rw [if_pos h] at e
    cases e
  · rw [if_neg h] at e
    simp only [List.mem_cons, List.not_mem_nil, or_false, not_or] at h
    exact ⟨h.1, h.2, e⟩
/-- lines and blanks stand -/
structure Sd (K : PySem.W.Frag) (d g ll bl : Addr) (L : List Ln) (bs : List Str) (xs : List V) (H : Hp) : Prop where
  hx : hid [d, g] H ll = some (.lst xs)
  hd : DpAll K (hid [d, g] H) xs (L.map rowD)
  hb : hid [d, g] H bl = some (.lst (bs.map V.str))
  ok : LOk L
  nd : (L.map (·.1)).Nodup
  ne : L ≠ []
  bk : Blk bs
theorem Sd.kn {K : PySem.W.Frag} {d g ll bl : Addr} {L : List Ln} {bs : List Str} {xs : List V} {H H' : Hp} (s : Sd K d g ll bl L bs xs H) (k : Kn d g H H') : Sd K d g ll bl L bs xs H' :=
  ⟨k.hid _ _ s.hx (by intro _ z; cases z), dpr_ext k.hid _ s.hd, k.hid _ _ s.hb (by intro _ z; cases z), s.ok, s.nd, s.ne, s.bk⟩
theorem Sd.len {K : PySem.W.Frag} {d g ll bl : Addr} {L : List Ln} {bs : List Str} {xs : List V} {H : Hp} (s : Sd K d g ll bl L bs xs H) : xs.length = L.length := by
  have := dpAll_len s.hd
  rw [List.length_map] at this
  exact this
theorem Sd.lst {K : PySem.W.Frag} {d g ll bl : Addr} {L : List Ln} {bs : List Str} {xs : List V} {H : Hp} (s : Sd K d g ll bl L bs xs H) : Lst K (hid [d, g] H) ll L := ⟨xs, SqL.of s.hx, s.hd⟩
theorem Sd.lstH {K : PySem.W.Frag} {d g ll bl : Addr} {L : List Ln} {bs : List Str} {xs : List V} {H : Hp} (s : Sd K d g ll bl L bs xs H) : Lst K H ll L := s.lst.same hid_le
theorem cut_9 (xs : List V) (h : 10 ≤ xs.length) : cutV xs none (some 9) = xs.take 9 := by
  have e2 : HT.sIx xs.length xs.length (some ((9 : Nat) : Int)) = min 9 xs.length := HT.sIx_nat _ _ _
  unfold cutV
  rw [HT.sIx_none, show (some (9 : Int)) = some ((9 : Nat) : Int) from rfl, e2, Nat.min_eq_left (by omega)]
  rfl
theorem whole_9 (xs : List V) (h : 10 ≤ xs.length) : ¬ (HT.sIx xs.length 0 (none : Option Int) = 0 ∧ HT.sIx xs.length xs.length (some 9) = xs.length) := by
  have e2 : HT.sIx xs.length xs.length (some ((9 : Nat) : Int)) = min 9 xs.length := HT.sIx_nat _ _ _
  rw [show (some (9 : Int)) = some ((9 : Nat) : Int) from rfl, e2]
  omega
theorem sum_takeLe (ns : List Nat) (i : Nat) : (ns.take i).sum ≤ ns.sum := by
  have h2 : ns = ns.take i ++ ns.drop i := (List.take_append_drop _ _).symm
  have : ns.sum = (ns.take i).sum + (ns.drop i).sum := by
    conv => lhs; rw [h2]
    rw [List.sum_append]
  omega
theorem maxl_take (ns : List Nat) (i : Nat) : maxl (ns.take i) ≤ maxl ns := maxl_le.mpr fun n hn => le_maxl (List.mem_of_mem_take hn)
theorem Ok.mk' {L : List Ln} {x : Str} {ps : List G} (hx : (find L x).isSome = true) (hf : x.length ≤ 10 ∧ PyData.strOk x = true) (hp : ∀ p ∈ ps, Ok L p) : Ok L (.t (.s x :: ps)) := by
  refine ⟨by rw [wfn_t, hx, Bool.true_and, List.all_eq_true]; exact fun p h => (hp p h).wf, fine_mk fun p h => ?_⟩
  rcases List.mem_cons.mp h with rfl | h
  · rw [K1.fine]
    simp [hf.1, hf.2]
  · exact (hp p h).fine
theorem Ok.parts {L : List Ln} {x : Str} {ps : List G} (h : Ok L (.t (.s x :: ps))) : (find L x).isSome = true ∧ (x.length ≤ 10 ∧ PyData.strOk x = true) ∧ ∀ p ∈ ps, Ok L p := by
  have h1 := h.wf
  have h2 := h.fine
  rw [wfn_t, Bool.and_eq_true, List.all_eq_true] at h1
  rw [fine_t, List.all_cons, Bool.and_eq_true, List.all_eq_true, K1.fine] at h2
  refine ⟨h1.1, by simpa using h2.1, fun p hp => ⟨h1.2 p hp, h2.2 p hp⟩⟩
theorem Ok.laid {L : List Ln} {g : G} (h : Ok L g) : Ok L (laid L g) := ⟨wfn_laid _ _ (Nat.le_refl _) h.wf, (laid_less (K1.dp g) g (Nat.le_refl _) h.shp h.fine).fine⟩
/-- a term of so many points at most, so deep at most -/
def TermIn (K : PySem.W.Frag) (L : List Ln) (r h : Nat) (H : Hp) (y : V) : Prop := ∃ g, In K H y g ∧ Ok L g ∧ points g ≤ max 1 r ∧ deep g ≤ max 1 h ∧ Std L g
theorem TermIn.tk {K : PySem.W.Frag} {L : List Ln} {r h : Nat} {H H' : Hp} {y : V} (q : TermIn K L r h H y) (s : TupK H H') : TermIn K L r h H' y := by
  obtain ⟨g, h1, h2, h3⟩ := q
  exact ⟨g, in_tk s _ _ h2.shp h1, h2, h3⟩
theorem terms_in {K : PySem.W.Frag} {L : List Ln} {r h : Nat} {H : Hp} : ∀ {ys : List V}, (∀ y ∈ ys, TermIn K L r h H y) → ∃ gs, InL K H ys gs ∧ (∀ g ∈ gs, Ok L g) ∧ (gs.map points).sum ≤ ys.length * max 1 r ∧ maxl (gs.map deep) ≤ max 1 h ∧ ∀ g ∈ gs, Std L g
  | [], _ => ⟨[], .nil, fun _ z => absurd z (by simp), Nat.zero_le _, Nat.zero_le _, fun _ z => absurd z (by simp)⟩
  | y :: ys, q => by
    obtain ⟨g, h1, h2, h3, h4, h5⟩ := q y List.mem_cons_self
    obtain ⟨gs, i1, i2, i3, i4, i5⟩ := terms_in (ys := ys) fun z hz => q z (List.mem_cons_of_mem _ hz)
    refine ⟨g :: gs, .cons h1 i1, fun z hz => ?_, ?_, ?_, ?_⟩
    · rcases List.mem_cons.mp hz with rfl | hz
      · exact h2
      · exact i2 z hz
    · rw [List.map_cons, List.sum_cons, List.length_cons, Nat.add_mul, Nat.one_mul]
      omega
    · exact Nat.max_le.mpr ⟨h4, i4⟩
    · intro z hz
      rcases List.mem_cons.mp hz with rfl | hz
      · exact h5
      · exact i5 z hz
abbrev sLTerm : Stmt := topS 57
abbrev nLTerm : List Str := ["_law_state", "_law_rows", "_law_blanks", "_law_room", "_law_height", "_law_name", "_law_kind", "_law_many", "_law_size", "_law_share", "_law_inner", "_law_k", "_law_found"]
def spTerm (K : PySem.W.Frag) (TT : List (Addr × Str)) (n : Nat) : Sp := fun vs H Q _ => ∃ (d g c ll bl : Addr) (t : Nat) (L : List Ln) (bs : List Str) (xs : List V) (r h : Nat), vs = [.ref d, .ref ll, .ref bl, .int r, .int h] ∧ Wd TT d g c t H ∧ Sd K d g ll bl L bs xs H ∧ t + 6 ^ (n + 1) < 2 ^ 30 ∧ r ≤ 1000 ∧ h ≤ 20 ∧ h < n ∧
  ∀ v H', TermIn K L r h H' v → Wd TT d g c (t + 6 ^ (n + 1)) H' → Kn d g H H' → Q v H'
section
variable {P : Program} {w : World} {K : PySem.W.Frag} {mg : Str → Option Value} {base : Heap}
theorem scLTerm : FnScope nLTerm ["_law_state", "_law_rows", "_law_blanks", "_law_room", "_law_height"] (defScope sLTerm) := ⟨rfl, rfl, rfl, by decide +kernel, rfl, by decide +kernel, by decide +kernel⟩
theorem ok_term' {f : Addr} {fd : FuncData} {TT : List (Addr × Str)} {n m N : Nat} (F : Fun K "_law_term" "_law_term" sLTerm f fd) (IH : Df P w K mg base C8.CX0 "_law_term" m ["_law_state", "_law_rows", "_law_blanks", "_law_room", "_law_height"] (spTerm K TT n))
    (DT : Df P w K mg base C8.CX0 "_law_take" 2 ["_law_state", "_law_size"] spTake) (DP : Df P w K mg base C8.CX0 "_law_pick" 3 ["_law_state", "_law_some"] spPick) (DF : Df P w K mg base C8.CX0 "_law_leaf" 4 ["_law_state", "_law_rows", "_law_blanks"] (spLeaf K TT))
    {q : Nat} (DL : Df P w K mg base C8.CX0 "_law_laid" q ["_law_kinds_here", "_law_draft_here"] (spLLaid K TT N)) (DK : Df P w K mg base C8.CX0 "_law_kinds" 1 ["_law_rows"] (spKinds K)) (T : Ct mg) (hm : 4 ≤ m) (hq : q ≤ m) (hN : 30 ≤ N) :
    FnOk P w K mg base C8.CX0 (m + 1) f fd ["_law_state", "_law_rows", "_law_blanks", "_law_room", "_law_height"] (spTerm K TT (n + 1)) := by
  refine F.ok scLTerm (fun vs H Q E h => ?_) (fun cdv A outer s H vs Q E hr h => ?_)
  · obtain ⟨d, g, c, ll, bl, t, L, bs, xs, r, h, rfl, _⟩ := h
    rfl
  · obtain ⟨d, g, c, ll, bl, t, L, bs, xs, r, h, rfl, W, S, ht, hr1, hh1, hh2, k⟩ := h
    have hr4 : Room 4 _ := hr.mono hm
    have hrq : Room q _ := hr.mono hq
    refine ⟨_, pss_cons (ps_if (PW.pt (pw_or (pt_cmpR op_lt (pv 3) pe_int (nomark _)) (pw_or (pt_cmpR op_lt (pv 4) pe_int (nomark _)) (pw_or1 (pt_cmpR op_eq (pe_df DT hr4 pass0 (pa_cons (pv 0) (pa_cons pe_int pa_nil))) pe_int (nomark _)))))) (pss_one (ps_ret (pe_df DF hr4 pass0 (pa_cons (pv 0) (pa_cons (pv 1) (pa_cons (pv 2) pa_nil)))))) pss_nil)
      (pss_cons (ps_asg (pe_df DP hr4 pass0 (pa_cons (pv 0) (pa_cons (pv 1) pa_nil))) (pg_tup rfl (pgs_cons (pg_name (i := 5) scLTerm.nd rfl (Or.inl rfl)) (pgs_cons (pg_name (i := 6) scLTerm.nd rfl (Or.inl rfl)) (pgs_cons (pg_name (i := 7) scLTerm.nd rfl (Or.inl rfl)) pgs_nil)))))
      (pss_cons (ps_set (i := 8) scLTerm.nd rfl (Or.inl rfl) (pv 7))
      (C8.pss_cut (ps_if (pt_cmpR (op_inT (units65 hr)) (pv 6) (pe_tup (pa_cons pe_str (pa_cons pe_str pa_nil))) (by rfl)) (pss_one (ps_set (i := 8) scLTerm.nd rfl (Or.inl rfl) (pe_callB (call_min2 rfl) (by rfl) T.min (by decide +kernel) (pa_cons (pe_op op_add pe_int (pe_df DT hr4 pass0 (pa_cons (pv 0) (pa_cons pe_int pa_nil)))) (pa_cons (pe_op op_sub (pv 3) pe_int) pa_nil))))) pss_nil)
      (C8.pss_cut (ps_if (PW.pt (pw_or (pt_cmpR op_eq (pv 8) pe_int (nomark _)) (pw_or (pt_cmpR op_gt (pv 8) (pe_op op_sub (pv 3) pe_int) (nomark _)) (pw_or1 (PW.pt (pw_and (pt_cmpR op_ne (pv 6) pe_str (nomark _)) (pw_and1 (pt_cmpR op_lt (pv 8) pe_int (nomark _))))))))) (pss_one (ps_ret (pe_df DF hr4 pass0 (pa_cons (pv 0) (pa_cons (pv 1) (pa_cons (pv 2) pa_nil)))))) pss_nil)
      (pss_cons (ps_set (i := 9) scLTerm.nd rfl (Or.inr rfl) (pe_op op_fdivN (pe_op op_sub (pv 3) pe_int) (pv 8)))
      (pss_cons (ps_setLc (i := 10) (own := [("_law_k", 11)]) (g := gName 11) (tt := tYes) rfl scLTerm.nd rfl rfl (sw_true rfl rfl rfl (by decide +kernel)) (pi_range1 rfl T.range (pa_cons (pv 8) pa_nil)) (blkOk_by (N := nLTerm) (sc := defScope sLTerm) (by decide +kernel)) (fun _ _ _ _ _ => pg_name (i := 11) scLTerm.nd rfl (Or.inl rfl)) (fun _ _ _ _ _ => pts_nil)
        (fun _ _ _ _ _ => pe_df IH hr pass0 (pa_cons (pv 0) (pa_cons (pv 1) (pa_cons (pv 2) (pa_cons (pv 9) (pa_cons (pe_op op_sub (pv 4) pe_int) pa_nil))))) (Nat.le_refl _)))
      (pss_cons (ps_set (i := 12) scLTerm.nd rfl (Or.inl rfl) (pe_df DL hrq pass0 (pa_cons (pe_df DK hr4 pass0 (pa_cons (pv 1) pa_nil)) (pa_cons (pe_op op_catT (pe_tup (pa_cons (pv 5) pa_nil)) (pe_callTy call_tuple_of (by rfl) T.tuple boot_tuple (pa_cons (pv 10) pa_nil))) pa_nil)) (Nat.le_refl _)))
      (pss_one (ps_ret (pe_ifExp (pt_cmpR op_lt (pe_callB call_len (by rfl) T.len PySem.boot_len (pa_cons (pv 12) pa_nil)) pe_int (nomark _)) (pv 12) (pe_slice sl_tup (pv 12) po_none (po_some pe_int)))))))))))), ?_⟩
    have hB : 6 ^ (n + 1 + 1) = 5 * 6 ^ (n + 1) + 6 ^ (n + 1) := by rw [Nat.pow_succ]; omega
    have hB6 : 6 ≤ 6 ^ (n + 1) := by
      have : 6 ^ 1 ≤ 6 ^ (n + 1) := Nat.pow_le_pow_right (by decide) (by omega)
      simpa using this
    generalize hBn : 6 ^ (n + 1) = B at *
    rw [hB] at ht k
    have leaf : ∀ (H1 : Hp) (t1 : Nat), Wd TT d g c t1 H1 → Kn d g H H1 → t1 + 1 ≤ t + (5 * B + B) → spLeaf K TT [.ref d, .ref ll, .ref bl] H1 Q E := fun H1 t1 W1 k1 h1 => by
      have S1 := S.kn k1
      refine ⟨d, g, c, ll, bl, t1, L, bs, rfl, W1, by omega, S1.lst, S1.ok, S1.nd, SqL.of S1.hb, S1.bk, fun v H' hv W2 k2 => k v H' ?_ (W2.mono h1) (k1.trans k2)⟩
      obtain ⟨gg, a1, a2, a3, a4, a5⟩ := hv
      exact ⟨gg, a1, a2, by omega, by omega, a5⟩
    refine ⟨_, rfl, _, _, rfl, rfl, _, rfl, ?_⟩
    refine ite2 (fun h1 => ⟨_, rfl, _, rfl, _, rfl, leaf H t W Kn.refl (by omega)⟩) (fun h1 => ?_)
    rw [decide_eq_true_iff] at h1
    refine ⟨_, rfl, _, _, rfl, rfl, _, rfl, ?_⟩
    refine ite2 (fun h2 => ⟨_, rfl, _, rfl, _, rfl, leaf H t W Kn.refl (by omega)⟩) (fun h2 => ?_)
    rw [decide_eq_true_iff] at h2
    refine ⟨_, rfl, d, g, c, t, 5, rfl, W.G, by omega, by decide, by decide, fun u1 H1 u10 u11 G1 k1 => ⟨rfl, _, rfl, ?_⟩⟩
    have W1 := W.kp G1 k1
    have n1 := Kn.kp k1
    refine ite2 (fun h3 => ⟨_, rfl, _, rfl, _, rfl, leaf H1 _ W1 n1 (by omega)⟩) (fun h3 => ?_)
    have S1 := S.kn n1
    obtain ⟨l1, l2, l3⟩ := hid_got S1.hx
    have hxl := S1.len
    have hLl := S1.ok.len
    refine ⟨_, rfl, _, rfl, d, g, c, ll, _, xs, rfl, G1, by omega, l3, l2, fun z => S1.ne (List.eq_nil_of_length_eq_zero (by rw [← hxl, z]; rfl)), by omega, fun x H2 hxm G2 k2 => ?_⟩
    have W2 := W1.kp G2 k2
    have n2 := n1.trans (Kn.kp k2)
    have S2 := S.kn n2
    obtain ⟨i, hi⟩ := List.getElem?_of_mem hxm
    obtain ⟨l, hli, hld⟩ := dpr_at S2.hd hi
    have hlm := List.mem_of_getElem? hli
    obtain ⟨b, rfl, hb⟩ := row_at (dp_same hid_le _ _ hld)
    obtain ⟨sk, _, _, _⟩ := kinds_ok _ (S.ok.kd l hlm)
    have hsm := S.ok.sm l hlm
    have hfs : (find L l.1).isSome = true := by
      cases e : find L l.1 with
      | none => exact absurd (List.mem_map.mpr ⟨l, hlm, rfl⟩) (find_none.mp e)
      | some _ => rfl
    have hnf := name_fine (S.ok.nm l hlm)
    refine ⟨b, _, rfl, hb, rfl, _, _, rfl, _, _, rfl, _, _, rfl, rfl, _, rfl, ?_⟩
    refine ⟨fun σ' H3 => ∃ z : Nat, σ' = [some (.ref d), some (.ref ll), some (.ref bl), some (.int r), some (.int h), some (.str l.1), some (.str l.2.1), some (.int l.2.2), some (.int z), none, none, none, none] ∧ z ≤ 5 ∧ (rowish l.2.1 = false → z = l.2.2) ∧ Wd TT d g c (t + 3) H3 ∧ Kn d g H H3, ?_, ?_⟩
    · refine ⟨_, rfl, (by show 2 ≤ sizeLine; decide), fun p hp => ⟨.str l.2.1, [.str "row", .str "heap"], .str _, .tup (SqT.of upd_same) (.cons (.str _) (.cons (.str _) .nil)), sk, by decide +kernel, _, rfl, ?_⟩⟩
      have W3 := W2.new (o := .tup [.str "row", .str "heap"]) hp
      have n3 := n2.new (o := .tup [.str "row", .str "heap"]) hp
      refine ite2 (fun h4 => ?_) (fun h4 => ⟨l.2.2, rfl, by omega, fun _ => rfl, W3.mono (by omega), n3⟩)
      refine ⟨_, rfl, d, g, c, _, 4, rfl, W3.G, by omega, by decide, by decide, fun u2 H4 u20 u21 G4 k4 => ⟨_, _, rfl, rfl, _, rfl, _, _, rfl, rfl, _, _, rfl, ?_⟩⟩
      have W4 := W3.kp G4 k4
      refine ⟨(if (r : Int) - 1 < 2 + u2 then (r : Int) - 1 else 2 + u2).toNat, ?_, by split <;> omega, (fun z => by rw [show rowish l.2.1 = true from h4] at z; cases z), W4.mono (by omega), n3.trans (Kn.kp k4)⟩
      have : (((if (r : Int) - 1 < 2 + u2 then (r : Int) - 1 else 2 + u2).toNat : Nat) : Int) = (if (r : Int) - 1 < 2 + u2 then (r : Int) - 1 else 2 + u2) := by
        rw [Int.toNat_of_nonneg]
        split <;> omega
      rw [this]
      rfl
    · rintro σ' H3 ⟨z, rfl, hz5, hzk, W3, n3⟩
      refine ⟨fun σ' H' => σ' = [some (.ref d), some (.ref ll), some (.ref bl), some (.int r), some (.int h), some (.str l.1), some (.str l.2.1), some (.int l.2.2), some (.int z), none, none, none, none] ∧ H' = H3 ∧ z ≠ 0 ∧ (z : Int) ≤ (r : Int) - 1 ∧ (l.2.1 ≠ "plain" → 2 ≤ z), ?_, ?_⟩
      · refine ⟨_, rfl, rfl, _, rfl, ?_⟩
        refine ite2 (fun h5 => ⟨_, rfl, _, rfl, _, rfl, leaf H3 _ W3 n3 (by omega)⟩) (fun h5 => ?_)
        have hz0 : z ≠ 0 := fun e => h5 (by rw [e]; rfl)
        refine ⟨_, rfl, _, rfl, _, _, rfl, rfl, _, _, rfl, rfl, _, rfl, ?_⟩
        refine ite2 (fun h6 => ⟨_, rfl, _, rfl, _, rfl, leaf H3 _ W3 n3 (by omega)⟩) (fun h6 => ?_)
        have h6' : (z : Int) ≤ (r : Int) - 1 := by simpa using h6
        refine ⟨_, rfl, rfl, _, rfl, ?_⟩
        refine ite2 (fun h7 => ⟨_, rfl, _, _, rfl, rfl, _, rfl, ?_⟩) (fun h7 => ⟨rfl, rfl, hz0, h6', fun e => absurd (by simpa using e) (fun e' : l.2.1 ≠ "plain" => h7 (by simpa using e'))⟩)
        exact ite2 (fun h8 => ⟨_, rfl, _, rfl, _, rfl, leaf H3 _ W3 n3 (by omega)⟩) (fun h8 => ⟨rfl, rfl, hz0, h6', fun _ => (by
          have h8' : ¬ ((z : Int) < 2) := by simpa using h8
          omega)⟩)
      · rintro σ' H' ⟨rfl, rfl, hz0, h6', hz2⟩
        refine ⟨_, rfl, _, _, rfl, rfl, _, rfl, _, _, rfl, rfl, ⟨by omega, by omega⟩, ?_⟩
        have hsh : ((r : Int) - 1).fdiv (z : Int) = (((r - 1) / z : Nat) : Int) := by
          rw [show (r : Int) - 1 = ((r - 1 : Nat) : Int) by omega, Int.fdiv_eq_ediv_of_nonneg _ (by omega)]
          exact (Int.natCast_ediv _ _).symm
        have hsp : z * ((r - 1) / z) ≤ r - 1 := Nat.mul_div_le _ _
        have hs1 : 1 ≤ (r - 1) / z := Nat.div_pos (by omega) (by omega)
        have hs2 : (r - 1) / z ≤ r - 1 := Nat.div_le_self _ _
        generalize hsg : (r - 1) / z = sh at *
        refine ⟨_, rfl, z, rfl, by omega, by omega, fun D hD => ?_⟩
        obtain ⟨Dd, Dg⟩ := W3.G.nd hD
        have Dc := W3.G.nc hD
        have W3D := W3.new (o := .lst []) hD
        have h1h : ((h : Int) - 1) = ((h - 1 : Nat) : Int) := by omega
        refine lc_range (lo := 0) (n := z) (fun i H4 => ∃ ys : List V, H4 D = some (.lst ys) ∧ ys.length = i ∧ Wd TT d g c (t + 3 + i * B) H4 ∧ Kn d g H' H4 ∧ ∀ y ∈ ys, TermIn K L sh (h - 1) H4 y)
          ⟨[], upd_same, rfl, W3D.mono (by omega), (Kn.refl).new hD, fun _ z => absurd z (by simp)⟩ ?_ ?_
        · rintro i H4 hi ⟨ys, eD, hyl, W4, n4, hys⟩
          have hiB : i * B ≤ 4 * B := Nat.mul_le_mul_right _ (by omega)
          refine ⟨rfl, _, rfl, _, rfl, _, rfl, _, rfl, _, rfl, _, _, rfl, rfl, d, g, c, ll, bl, _, L, bs, xs, sh, h - 1, (by show [V.ref d, V.ref ll, V.ref bl, V.int (((r : Int) - 1).fdiv (z : Int)), V.int ((h : Int) - 1)] = _; rw [hsh, h1h]), W4, S.kn (n3.trans n4), by omega, by omega, by omega, by omega, fun v H5 hv W5 k5 => ?_⟩
          have eD5 := k5 D _ Dd Dg eD (by intro _ q; cases q)
          have off : TupK H5 (upd H5 D (.lst (ys ++ [v]))) := (TupK.of (Ext.refl H5)).off eD5
          refine ⟨ys, eD5, by rw [sizeLine_eq]; omega, ys ++ [v], upd_same, by rw [List.length_append, hyl]; rfl, ?_, (n4.trans k5).updD hD, fun y hy => ?_⟩
          · exact (W5.mono (by rw [Nat.add_mul, Nat.one_mul]; omega)).off eD5 Dd Dg Dc
          · rcases List.mem_append.mp hy with hy | hy
            · exact (hys y hy).tk ((W4.G.tk k5).trans off)
            · rw [List.mem_singleton.mp hy]
              exact hv.tk off
        · rintro H4 ⟨ys, eD, hyl, W4, n4, hys⟩
          have hzB : z * B ≤ 5 * B := Nat.mul_le_mul_right _ hz5
          have S4 := S.kn (n3.trans n4)
          refine ⟨_, rfl, ll, L, rfl, S4.lstH, S.ok, S.nd, fun H5 p s5 hp5 => ?_⟩
          refine ⟨_, rfl, (by show 1 ≤ sizeLine; decide), fun q1 hq1 => ?_⟩
          have s6 := Same.new (o := .tup [.str l.1]) s5 hq1
          have eD6 := s6 _ _ eD
          refine ⟨_, rfl, D, ys, rfl, .inl ⟨SqL.of eD6, fun u hu => ?_⟩⟩
          have s7 := Same.new (o := .tup ys) s6 hu
          have nq : q1 ≠ u := fun e => by rw [← e, upd_same] at hu; cases hu
          refine ⟨q1, u, [.str l.1], ys, rfl, rfl, SqT.of (by rw [upd_ne nq, upd_same]), SqT.of upd_same, by simp, by simp only [List.length_cons, List.length_nil]; rw [sizeLine_eq]; omega, fun e => absurd (congrArg List.length e) (by rw [hyl]; simpa using hz0), fun _ p2 hp2 => ?_⟩
          have s8 := Same.new (o := .tup ([.str l.1] ++ ys)) s7 hp2
          have tk8 : TupK H4 _ := TupK.of (Ext.of s8)
          obtain ⟨gs, i1, i2, i3, i4, i5⟩ := terms_in fun y hy => (hys y hy).tk tk8
          have okT : Ok L (.t (.s l.1 :: gs)) := Ok.mk' hfs hnf i2
          rw [hyl] at i3
          have eM : z * max 1 sh = z * sh := by rw [Nat.max_eq_right hs1]
          have hpT : points (.t (.s l.1 :: gs)) ≤ r := by
            rw [points_t]
            omega
          have hdT : deep (.t (.s l.1 :: gs)) ≤ h := by
            rw [deep_t]
            omega
          have hdp := okT.dp
          have hsz := okT.sz
          have W8 := W4.same s8
          refine ⟨p, L, .ref p2, .t (.s l.1 :: gs), rfl, Same.new (o := .tup ([.str l.1] ++ ys)) (Same.new (o := .tup ys) (Same.new (o := .tup [.str l.1]) (Same.refl H5) hq1) hu) hp2 _ _ hp5, S.ok, .t (SqT.of upd_same) (.cons (.s _) i1), okT.wf, okT.fine, by omega, by omega, W8.T, fun H9 v' e9 t9 hv' => ?_⟩
          have W9 := W8.ext e9 t9
          have n9 : Kn d g H H9 := ((n3.trans n4).trans (.same s8)).trans (.ext e9)
          have okL := okT.laid
          have hLs := laid_less (L := L) _ _ (Nat.le_refl _) okT.shp okT.fine
          have hp9 := hLs.pts
          have hd9 := hLs.deep
          have hfl := find_nd S.nd hlm
          have hgl : gs.length = z := by rw [← i1.len, hyl]
          have hsT : stands L (.t (.s l.1 :: gs)) = true := by
            rw [stands_t, Bool.and_eq_true_iff]
            refine ⟨?_, List.all_eq_true.mpr fun p hp => (i5 p hp).st⟩
            simp only [hasParts, hfl, hgl]
            cases er : rowish l.2.1 with
            | true =>
              have : l.2.1 ≠ "plain" := fun e => by rw [e] at er; exact absurd er (by decide +kernel)
              have := hz2 this
              simp only [if_true]
              exact decide_eq_true (by omega)
            | false =>
              simp only [Bool.false_eq_true, if_false]
              exact decide_eq_true (hzk er)
          have em : gs.map (laid L) = gs := (List.map_congr_left fun p hp => (i5 p hp).ld).trans (List.map_id _)
          rw [laid_t, em] at hv' okL hp9 hd9
          generalize has : arr _ _ _ = as at hv' okL hp9 hd9
          have cutS := std_cut S.ok hsT i5 has.symm
          obtain ⟨a9, zs, rfl, hz9, hg9⟩ := hv'.tup
          have hzl := hg9.len
          have hsl := sz_len (.s l.1 :: as)
          have hsA := okL.sz
          refine ⟨_, rfl, .ref a9, zs.length, rfl, .inr ⟨zs, hz9, rfl⟩, _, _, rfl, rfl, _, rfl, ?_⟩
          refine ite2 (fun h9 => ⟨_, rfl, k _ _ ⟨_, hv', okL, by omega, by omega, by
            have h9' : (zs.length : Int) < 10 := by simpa using h9
            rw [List.take_of_length_le (by simp only [List.length_cons] at hzl; omega)] at cutS
            exact cutS⟩ (W9.mono (by omega)) n9⟩) (fun h9 => ?_)
          have h9' : 10 ≤ zs.length := by
            have q0 : ¬ ((zs.length : Int) < 10) := by simpa using h9
            omega
          refine ⟨_, rfl, _, rfl, a9, zs, rfl, hz9, whole_9 zs h9', fun p3 hp3 => ?_⟩
          have sN := Same.new (o := .tup (cutV zs none (some 9))) (Same.refl H9) hp3
          obtain ⟨b1, b2, b3⟩ := okL.parts
          rw [points_t] at hp9
          rw [deep_t] at hd9
          have q1 := sum_takeLe (as.map points) 8
          have q2 := maxl_take (as.map deep) 8
          rw [← List.map_take] at q1 q2
          refine k _ _ ⟨.t (.s l.1 :: as.take 8), .t (SqT.of upd_same) ?_, Ok.mk' b1 b2 fun p hp => b3 p (List.mem_of_mem_take hp), ?_, ?_, cutS⟩ ((W9.same sN).mono (by omega)) (n9.trans (.same sN))
          · have e := (hg9.take 9).same sN
            rw [← cut_9 zs h9'] at e
            exact e
          · rw [points_t]
            omega
          · rw [deep_t]
            omega
end
end K1
set_option Elab.async false
set_option linter.all false
set_option maxRecDepth 100000
set_option maxHeartbeats 2000000
namespace K1
open PySem PySem.Spec PyProof.Rows L2
open PySem.W (EachIs)
theorem cut_to {xs : List V} (n : Nat) (h : n ≤ xs.length) : cutV xs none (some (n : Int)) = xs.take n := by
  unfold cutV
  rw [HT.sIx_none, HT.sIx_nat, Nat.min_eq_left h]
  rfl
theorem cut_fr {xs : List V} (n : Nat) (h : n ≤ xs.length) : cutV xs (some (n : Int)) none = xs.drop n := by
  unfold cutV
  rw [HT.sIx_none, HT.sIx_nat, Nat.min_eq_left h]
  exact List.take_of_length_le (by rw [List.length_drop]; omega)
theorem cut_mid {xs : List V} (n m : Nat) (h : n ≤ m) (hm : m ≤ xs.length) : cutV xs (some (n : Int)) (some (m : Int)) = (xs.drop n).take (m - n) := by
  unfold cutV
  rw [HT.sIx_nat, HT.sIx_nat, Nat.min_eq_left hm, Nat.min_eq_left (by omega)]
theorem sum3 (ns : List Nat) (a e : Nat) (h : a ≤ e) : (ns.take a).sum + ((ns.drop a).take (e - a)).sum + (ns.drop e).sum = ns.sum := by
  have h1 : ns.sum = (ns.take a).sum + (ns.drop a).sum := by
    conv => lhs; rw [← List.take_append_drop a ns]
    rw [List.sum_append]
  have h2 : (ns.drop a).sum = ((ns.drop a).take (e - a)).sum + (ns.drop e).sum := by
    conv => lhs; rw [← List.take_append_drop (e - a) (ns.drop a)]
    rw [List.sum_append, List.drop_drop, show a + (e - a) = e by omega]
  omega
theorem inL_perm {K : PySem.W.Frag} {H : Hp} {ys zs : List V} (p : ys.Perm zs) : ∀ {gs : List G}, InL K H ys gs → ∃ hs, InL K H zs hs ∧ gs.Perm hs := by
  induction p with
  | nil => intro gs h; exact ⟨gs, h, .refl _⟩
  | cons x _ ih =>
    intro gs h
    cases h with
    | cons h t =>
      obtain ⟨hs, i1, i2⟩ := ih t
      exact ⟨_, .cons h i1, i2.cons _⟩
  | swap x y l =>
    intro gs h
    cases h with
    | cons h t =>
      cases t with
      | cons h' t => exact ⟨_, .cons h' (.cons h t), .swap _ _ _⟩
  | trans _ _ ih1 ih2 =>
    intro gs h
    obtain ⟨hs, i1, i2⟩ := ih1 h
    obtain ⟨ks, j1, j2⟩ := ih2 i1
    exact ⟨ks, j1, i2.trans j2⟩
theorem sum_perm {as bs : List Nat} (p : as.Perm bs) : as.sum = bs.sum := by
  induction p with
  | nil => rfl
  | cons x _ ih => rw [List.sum_cons, List.sum_cons, ih]
  | swap x y l => simp only [List.sum_cons]; omega
  | trans _ _ a b => exact a.trans b
/-- parts of a term, together so many points at most, so deep at most -/
def Pt (K : PySem.W.Frag) (L : List Ln) (n S M : Nat) (Z : List G → Prop) (H : Hp) (ys : List V) : Prop := ∃ gs, InL K H ys gs ∧ gs.length ≤ n ∧ (∀ g ∈ gs, Ok L g) ∧ (gs.map points).sum ≤ S ∧ maxl (gs.map deep) ≤ M ∧ Z gs
theorem Pt.tk {K : PySem.W.Frag} {L : List Ln} {n S M : Nat} {Z : List G → Prop} {H H' : Hp} {ys : List V} (q : Pt K L n S M Z H ys) (s : TupK H H') : Pt K L n S M Z H' ys := by
  obtain ⟨gs, h1, h2, h3, h4⟩ := q
  exact ⟨gs, inL_tk s _ _ (fun g hg => (h3 g hg).shp) h1, h2, h3, h4⟩
theorem Pt.perm {K : PySem.W.Frag} {L : List Ln} {n S M : Nat} {Z Z' : List G → Prop} {H : Hp} {ys zs : List V} (q : Pt K L n S M Z H ys) (p : ys.Perm zs) (hz : ∀ gs hs, gs.Perm hs → Z gs → Z' hs) : Pt K L n S M Z' H zs := by
  obtain ⟨gs, h1, h2, h3, h4, h5, h6⟩ := q
  obtain ⟨hs, i1, i2⟩ := inL_perm p h1
  refine ⟨hs, i1, by rw [← i2.length_eq]; exact h2, fun g hg => h3 g (i2.mem_iff.mpr hg), ?_, ?_, hz _ _ i2 h6⟩
  · rw [← sum_perm (i2.map points)]
    exact h4
  · exact maxl_le.mpr fun m hm => maxl_le.mp h5 m ((i2.map deep).mem_iff.mpr hm)
theorem Pt.len {K : PySem.W.Frag} {L : List Ln} {n S M : Nat} {Z : List G → Prop} {H : Hp} {ys : List V} (q : Pt K L n S M Z H ys) : ys.length ≤ n := by
  obtain ⟨gs, h1, h2, _⟩ := q
  rw [h1.len]
  exact h2
theorem Pt.mono {K : PySem.W.Frag} {L : List Ln} {n S M S' M' : Nat} {Z Z' : List G → Prop} {H : Hp} {ys : List V} (q : Pt K L n S M Z H ys) (h1 : S ≤ S') (h2 : M ≤ M') (hz : ∀ gs, Z gs → Z' gs) : Pt K L n S' M' Z' H ys := by
  obtain ⟨gs, a1, a2, a3, a4, a5, a6⟩ := q
  exact ⟨gs, a1, a2, a3, Nat.le_trans a4 h1, Nat.le_trans a5 h2, hz _ a6⟩
theorem maxl_app (as bs : List Nat) : maxl (as ++ bs) = max (maxl as) (maxl bs) := by
  induction as with
  | nil => simp [maxl]
  | cons a r ih =>
    show max a (maxl (r ++ bs)) = max (max a (maxl r)) (maxl bs)
    rw [ih, Nat.max_assoc]
theorem maxl_drop (ns : List Nat) (i : Nat) : maxl (ns.drop i) ≤ maxl ns := maxl_le.mpr fun n hn => le_maxl (List.mem_of_mem_drop hn)
/-- parts from a up to e put in a row of their own -/
theorem Pt.group {K : PySem.W.Frag} {L : List Ln} {n S M : Nat} {Z Z' : List G → Prop} {H : Hp} {ys : List V} {x : Str} {p : Addr} {a e : Nat} (q : Pt K L n S M Z H ys) (h : a < e) (he : e ≤ ys.length) (hx : (find L x).isSome = true) (hf : x.length ≤ 10 ∧ PyData.strOk x = true)
    (hp : SqT K H p (.str x :: (ys.drop a).take (e - a))) (hz : ∀ gs, gs.length = ys.length → Z gs → Z' (gs.take a ++ [.t (.s x :: (gs.drop a).take (e - a))] ++ gs.drop e)) : Pt K L n (S + 1) (M + 1) Z' H (ys.take a ++ [.ref p] ++ ys.drop e) := by
  obtain ⟨gs, a1, a2, a3, a4, a5, a6⟩ := q
  have hl := a1.len
  refine ⟨gs.take a ++ [.t (.s x :: (gs.drop a).take (e - a))] ++ gs.drop e, ((a1.take a).app (.cons (.t hp (.cons (.s x) ((a1.drop a).take (e - a)))) .nil)).app (a1.drop e), ?_, fun g hg => ?_, ?_, ?_, hz gs hl.symm a6⟩
  · simp only [List.length_append, List.length_take, List.length_drop, List.length_cons, List.length_nil]
    omega
  · rcases List.mem_append.mp hg with hg | hg
    · rcases List.mem_append.mp hg with hg | hg
      · exact a3 g (List.mem_of_mem_take hg)
      · rw [List.mem_singleton.mp hg]
        exact Ok.mk' hx hf fun p hp => a3 p (List.mem_of_mem_drop (List.mem_of_mem_take hp))
    · exact a3 g (List.mem_of_mem_drop hg)
  · have := sum3 (gs.map points) a e (by omega)
    rw [List.map_append, List.map_append, List.sum_append, List.sum_append, List.map_cons, List.map_nil, points_t, List.map_take, List.map_drop, List.map_take, List.map_drop]
    simp only [List.sum_cons, List.sum_nil]
    omega
  · have h1 := maxl_take (gs.map deep) a
    have h2 := maxl_drop (gs.map deep) e
    have h3 := maxl_take ((gs.map deep).drop a) (e - a)
    have h4 := maxl_drop (gs.map deep) a
    rw [List.map_append, List.map_append, maxl_app, maxl_app, List.map_cons, List.map_nil, deep_t, List.map_take, List.map_drop, List.map_take, List.map_drop]
    show max (max _ (max _ 0)) _ ≤ _
    omega
/-- the same term otherwise told -/
def LRes (K : PySem.W.Frag) (L : List Ln) (g : G) (H : Hp) (y : V) : Prop := ∃ g', In K H y g' ∧ Ok L g' ∧ points g' ≤ 2 * points g ∧ deep g' ≤ 2 * deep g ∧ Dft L g g'
theorem LRes.tk {K : PySem.W.Frag} {L : List Ln} {g : G} {H H' : Hp} {y : V} (q : LRes K L g H y) (s : TupK H H') : LRes K L g H' y := by
  obtain ⟨g, h1, h2, h3⟩ := q
  exact ⟨g, in_tk s _ _ h2.shp h1, h2, h3⟩
theorem lres_pt {K : PySem.W.Frag} {L : List Ln} {H : Hp} : ∀ {ys : List V} {gs : List G}, EachIs (fun y g => LRes K L g H y) ys gs → Pt K L gs.length (2 * (gs.map points).sum) (2 * maxl (gs.map deep)) (fun hs => hs.map (laid L) = gs.map (laid L) ∧ ∀ h ∈ hs, stands L h = true) H ys
  | _, _, .nil => ⟨[], .nil, Nat.le_refl _, fun _ z => absurd z (by simp), Nat.le_refl _, Nat.le_refl _, rfl, fun _ z => absurd z (by simp)⟩
  | _, _, .cons (a := y) (b := g) h t => by
    obtain ⟨g', h1, h2, h3, h4, h5⟩ := h
    obtain ⟨gs', i1, i2, i3, i4, i5, i6, i7⟩ := lres_pt t
    refine ⟨g' :: gs', .cons h1 i1, Nat.succ_le_succ i2, fun z hz => ?_, ?_, ?_, by rw [List.map_cons, List.map_cons, h5.ld, i6], fun z hz => ?_⟩
    · rcases List.mem_cons.mp hz with rfl | hz
      · exact h2
      · exact i3 z hz
    · rw [List.map_cons, List.sum_cons, List.map_cons, List.sum_cons]
      omega
    · rw [List.map_cons, List.map_cons]
      show max _ _ ≤ 2 * max _ _
      have e1 : maxl (gs'.map deep) = (gs'.map deep).foldr max 0 := rfl
      unfold maxl at i5
      omega
    · rcases List.mem_cons.mp hz with rfl | hz
      · exact h5.st
      · exact i7 z hz
abbrev sLoose : Stmt := topS 58
abbrev nLoose : List Str := ["_law_state", "_law_kinds_here", "_law_tree", "_law_kind", "_law_inner", "_law_part", "_law_left", "_law_k", "_law_at", "_law_end", "_law_middle"]
def tkN (gs : List G) : Nat := (gs.map fun g => 4 * points g - 1).sum
theorem tkN_sum : ∀ gs : List G, tkN gs + gs.length = 4 * (gs.map points).sum
  | [] => rfl
  | g :: gs => by
    have ih := tkN_sum gs
    have := points_pos g
    unfold tkN at ih ⊢
    rw [List.map_cons, List.sum_cons, List.map_cons, List.sum_cons, List.length_cons]
    omega
def spLoose (K : PySem.W.Frag) (TT : List (Addr × Str)) (n : Nat) : Sp := fun vs H Q _ => ∃ (d g c ka : Addr) (t : Nat) (L : List Ln) (v : V) (gg : G), vs = [.ref d, .ref ka, v] ∧ Wd TT d g c t H ∧ hid [d, g] H ka = some (.dK (kd L)) ∧ LOk L ∧ In K H v gg ∧ Ok L gg ∧ stands L gg = true ∧ dp gg ≤ n ∧ sz gg ≤ 1000 ∧ t + 4 * points gg < 2 ^ 30 ∧
  ∀ v' H', LRes K L gg H' v' → Wd TT d g c (t + (4 * points gg - 1)) H' → Kn d g H H' → Q v' H'
theorem pop_perm {α : Type} : ∀ {xs : List α} {k : Nat} {y : α}, xs[k]? = some y → xs.Perm (y :: xs.eraseIdx k)
  | [], k, y, h => by simp at h
  | a :: l, 0, y, h => by
    have e : a = y := by simpa using h
    rw [e]
    exact .refl _
  | a :: l, k + 1, y, h => by
    have := pop_perm (xs := l) (k := k) (y := y) (by simpa using h)
    exact (this.cons a).trans (.swap _ _ _)
theorem pop_len {α : Type} {xs : List α} {k : Nat} {y : α} (h : xs[k]? = some y) : (xs.eraseIdx k).length + 1 = xs.length := by
  have := (pop_perm h).length_eq
  rw [List.length_cons] at this
  exact this.symm
theorem seq_ix {u : Int} {n : Nat} (h0 : 0 ≤ u) (h1 : u < n) : seqIndex? u n = some u.toNat := by
  simp [seqIndex?, show ¬ u < 0 by omega, h0, h1]
theorem Kn.updF {d g p : Addr} {o : HO} {H H0 H1 : Hp} (a : Kn d g H H1) (a0 : Kn d g H H0) (h : H0 p = none) : Kn d g H (upd H1 p o) := fun x u h1 h2 e n => by
  rw [upd_ne (ne_of_none (a0 x u h1 h2 e n) h)]
  exact a x u h1 h2 e n
theorem tkN_snoc {gs : List G} {i : Nat} {g : G} (h : gs[i]? = some g) : tkN (gs.take (i + 1)) = tkN (gs.take i) + (4 * points g - 1) := by
  unfold tkN
  rw [take_snoc h, List.map_append, List.sum_append]
  simp
section
variable {P : Program} {w : World} {K : PySem.W.Frag} {mg : Str → Option Value} {base : Heap}
theorem scLoose : FnScope nLoose ["_law_state", "_law_kinds_here", "_law_tree"] (defScope sLoose) := ⟨rfl, rfl, rfl, by decide +kernel, rfl, by decide +kernel, by decide +kernel⟩
theorem ok_loose {f : Addr} {fd : FuncData} {TT : List (Addr × Str)} {n m : Nat} (F : Fun K "_law_loose" "_law_loose" sLoose f fd) (IH : Df P w K mg base C8.CX0 "_law_loose" m ["_law_state", "_law_kinds_here", "_law_tree"] (spLoose K TT n))
    (DT : Df P w K mg base C8.CX0 "_law_take" 2 ["_law_state", "_law_size"] spTake) (T : Ct mg) (hm : 2 ≤ m) :
    FnOk P w K mg base C8.CX0 (m + 1) f fd ["_law_state", "_law_kinds_here", "_law_tree"] (spLoose K TT (n + 1)) := by
  refine F.ok scLoose (fun vs H Q E h => ?_) (fun cdv A outer s H vs Q E hr h => ?_)
  · obtain ⟨d, g, c, ka, t, L, v, gg, rfl, _⟩ := h
    rfl
  · obtain ⟨d, g, c, ka, t, L, v, gg, rfl, W, hka, ok, hin, okg, hst, hd, hz, ht, k⟩ := h
    have hr2 : Room 2 _ := hr.mono hm
    have hu' := hu_of hr
    refine ⟨_, pss_cons (ps_if (PW.pt (pw_or (pt_val (pe_callB call_isi (by rfl) T.isi boot_isinstance (pa_cons (pv 2) (pa_cons (pe_bltn (v := .ty "str") (by rfl) T.str boot_str rfl) pa_nil)))) (pw_or1 (pt_cmpR op_eq (pe_callB call_len (by rfl) T.len PySem.boot_len (pa_cons (pv 2) pa_nil)) pe_int (nomark _))))) (pss_one (ps_ret (pv 2))) pss_nil)
      (pss_cons (ps_par (i := 4) (j := 3) (by rfl) scLoose.nd rfl rfl (by decide) rfl rfl (pa_cons (pe_lc (own := [("_law_part", 5)]) (g := gName 5) (tt := tYes) rfl scLoose.nd (pi_tup (pe_slice sl_tup (pv 2) (po_some pe_int) po_none)) (blkOk_by (N := nLoose) (sc := defScope sLoose) (by decide +kernel)) (fun _ _ _ _ _ => pg_name (i := 5) scLoose.nd rfl (Or.inl rfl)) (fun _ _ _ _ _ => pts_nil)
        (fun _ _ _ _ _ => pe_df IH hr pass0 (pa_cons (pv 0) (pa_cons (pv 1) (pa_cons (pv 5) pa_nil))) (Nat.le_refl _))) (pa_cons (pe_dget hu' (pv 1) (pe_ix ix_tup (pv 2) pe_int (fun _ _ => rfl)) (fun _ _ => rfl)) pa_nil)) (by rfl))
      (C8.pss_cut (ps_if (pt_cmpR (op_inT (units65 hr)) (pv 3) (pe_tup (pa_cons pe_str (pa_cons pe_str pa_nil))) (by rfl))
        (pss_cons (ps_par (i := 6) (j := 4) (by rfl) scLoose.nd rfl rfl (by decide) rfl rfl (pa_cons (pv 4) (pa_cons (pe_lst pa_nil) pa_nil)) (by rfl))
        (pss_one (ps_for PassesOwn.never rfl (pi_range1 rfl T.range (pa_cons (pe_callB call_len_seq (by rfl) T.len PySem.boot_len (pa_cons (pv 6) pa_nil)) pa_nil)) (pg_name (i := 7) scLoose.nd rfl (Or.inl rfl))
          (pss_one (ps_expr (pe_bm PySem.F.plainAttrs_list PySem.F.slot_list_append PySem.F.type_list_append mt_append (pv 4) (pa_cons (pe_bm PySem.F.plainAttrs_list PySem.F.slot_list_pop PySem.F.type_list_pop mt_popAt (pv 6) (pa_cons (pe_df DT hr2 pass0 (pa_cons (pv 0) (pa_cons (pe_callB call_len_seq (by rfl) T.len PySem.boot_len (pa_cons (pv 6) pa_nil)) pa_nil))) pa_nil)) pa_nil))))))) pss_nil)
      (C8.pss_cut (ps_if (PW.pt (pw_and (pt_cmpR (op_inT (units65 hr)) (pv 3) (pe_tup (pa_cons pe_str (pa_cons pe_str pa_nil))) (by rfl)) (pw_and (pt_cmpR op_gt (pe_callB call_len_seq (by rfl) T.len PySem.boot_len (pa_cons (pv 4) pa_nil)) pe_int (nomark _)) (pw_and1 (pt_cmpR op_eq (pe_df DT hr2 pass0 (pa_cons (pv 0) (pa_cons pe_int pa_nil))) pe_int (nomark _))))))
        (pss_cons (ps_set (i := 8) scLoose.nd rfl (Or.inl rfl) (pe_df DT hr2 pass0 (pa_cons (pv 0) (pa_cons (pe_op op_sub (pe_callB call_len_seq (by rfl) T.len PySem.boot_len (pa_cons (pv 4) pa_nil)) pe_int) pa_nil))))
        (pss_cons (ps_set (i := 9) scLoose.nd rfl (Or.inl rfl) (pe_op op_add (pe_op op_add (pv 8) pe_int) (pe_df DT hr2 pass0 (pa_cons (pv 0) (pa_cons (pe_op op_sub (pe_op op_sub (pe_callB call_len_seq (by rfl) T.len PySem.boot_len (pa_cons (pv 4) pa_nil)) (pv 8)) pe_int) pa_nil)))))
        (pss_one (ps_if (pt_cmpR op_lt (pe_op op_sub (pv 9) (pv 8)) (pe_callB call_len_seq (by rfl) T.len PySem.boot_len (pa_cons (pv 4) pa_nil)) (by rfl))
          (pss_cons (ps_set (i := 10) scLoose.nd rfl (Or.inl rfl) (pe_op op_catT (pe_tup (pa_cons (pe_ix ix_tup (pv 2) pe_int (fun _ _ => rfl)) pa_nil)) (pe_callTy call_tuple_of (by rfl) T.tuple boot_tuple (pa_cons (pe_slice sl_list (pv 4) (po_some (pv 8)) (po_some (pv 9))) pa_nil))))
          (pss_one (ps_set (i := 4) scLoose.nd rfl (Or.inl rfl) (pe_op op_cat (pe_op op_cat (pe_slice sl_list (pv 4) po_none (po_some (pv 8))) (pe_lst (pa_cons (pv 10) pa_nil))) (pe_slice sl_list (pv 4) (po_some (pv 9)) po_none))))) pss_nil)))) pss_nil)
      (pss_one (ps_ret (pe_op op_catT (pe_tup (pa_cons (pe_ix ix_tup (pv 2) pe_int (fun _ _ => rfl)) pa_nil)) (pe_callTy call_tuple_of (by rfl) T.tuple boot_tuple (pa_cons (pv 4) pa_nil)))))))), ?_⟩
    obtain ⟨dd, t1, t2⟩ := isi_str hin
    refine ⟨_, rfl, _, _, _, _, _, rfl, .ty "str", t1, t2, _, rfl, ?_⟩
    have stay : ∀ Q' : VK, (∀ v' H', LRes K L gg H' v' → Wd TT d g c (t + (4 * points gg - 1)) H' → Kn d g H H' → Q' v' H') → Q' v H := fun Q' q => q v H ⟨gg, hin, okg, by omega, by omega, hst, rfl⟩ (W.mono (by omega)) Kn.refl
    rcases shp_cases okg.shp with ⟨x, rfl⟩ | ⟨y, ps, rfl, hp⟩
    · exact iteT ⟨_, rfl, stay _ k⟩
    refine iteF ?_
    obtain ⟨a, xs, rfl, hx, hg⟩ := hin.tup
    have hlen := hg.len
    have hsl := sz_len (.s y :: ps)
    refine ⟨_, rfl, .ref a, xs.length, rfl, .inr ⟨xs, hx, rfl⟩, rfl, _, rfl, ?_⟩
    refine ite2 (fun _ => ⟨_, rfl, stay _ k⟩) (fun h1 => ?_)
    obtain ⟨v0, e0, h0⟩ := hg.get (i := 0) rfl
    obtain rfl := h0.str
    obtain ⟨b1, b2, b3⟩ := okg.parts
    obtain ⟨ln, hfi⟩ := Option.isSome_iff_exists.mp b1
    obtain ⟨m1, m2⟩ := find_mem hfi
    obtain ⟨sk, _, _, _⟩ := kinds_ok _ (ok.kd ln m1)
    have ekd := kindOf_of hfi
    have hst' := hst
    rw [stands_t, Bool.and_eq_true_iff] at hst'
    have hstp := List.all_eq_true.mp hst'.2
    have gokS : ∀ g, stands L g = true → gok (laid L g) = true := fun g h => gok_laid _ g (Nat.le_refl _) (stands_gok ok _ g (Nat.le_refl _) h)
    have hkv : valV (kd L) (Sum.inr y : Key) = some (.str ln.2.1) := by rw [kd_val, hfi]; rfl
    have hkH : H ka = some (.dK (kd L)) := (hid_got hka).2.2
    have dg0 : DGet H ka (.str y) (some (.str ln.2.1)) := by
      rw [← hkv]
      exact DGet.k (k := Sum.inr y) hkH
    refine ⟨_, rfl, _, rfl, a, xs, rfl, hx, whole_1 (ne_nil hg), fun q0 hq => ⟨q0, rfl, ⟨_, SqT.of upd_same⟩, fun D hD => ?_⟩⟩
    have W0 := W.new (o := .tup (cutV xs (some 1) none)) hq
    have s0 := Same.new (o := .tup (cutV xs (some 1) none)) (Same.refl H) hq
    have n0 : Kn d g H _ := .same s0
    have hgd : InL K (upd H q0 (.tup (cutV xs (some 1) none))) (cutV xs (some 1) none) ps := by
      have z := (hg.drop 1).same s0
      rw [← cut_1] at z
      exact z
    obtain ⟨Dd, Dg⟩ := W0.G.nd hD
    have Dc := W0.G.nc hD
    have hpt := points_t (.s y) ps
    have hdt := deep_t (.s y) ps
    have htk := tkN_sum ps
    have hpl : ps.length ≤ 1000 := by simp only [List.length_cons] at hsl; omega
    refine lc_tup (K := K) (a := q0) (xs := cutV xs (some 1) none) (fun i H4 => ∃ ys : List V, H4 D = some (.lst ys) ∧ Wd TT d g c (t + tkN (ps.take i)) H4 ∧ Kn d g (upd H q0 (.tup (cutV xs (some 1) none))) H4 ∧ EachIs (fun y p => LRes K L p H4 y) ys (ps.take i))
      ⟨[], upd_same, (W0.new hD).mono (Nat.le_add_right _ _), Kn.refl.new hD, .nil⟩ (fun i H4 _ ⟨_, _, _, n4, _⟩ => (W0.G.tk n4).sqt (SqT.of upd_same)) ?_ ?_
    · rintro i x H4 hi ⟨ys, eD, W4, n4, hys⟩
      obtain ⟨p, hpi, hpin⟩ := hgd.at hi
      have hpm := List.mem_of_getElem? hpi
      have hpm' : p ∈ G.s y :: ps := List.mem_cons_of_mem _ hpm
      have hst := sum_take (ns := ps.map points) (i := i) (n := points p) (by rw [List.getElem?_map, hpi]; rfl)
      have hti := tkN_sum (ps.take i)
      rw [List.map_take] at hti
      have hyl := hys.length
      rw [List.length_take] at hyl
      refine ⟨rfl, _, rfl, _, rfl, _, rfl, d, g, c, ka, _, L, x, p, rfl, W4, (n0.trans n4).hid _ _ hka (by intro _ z; cases z), ok, in_tk (W0.G.tk n4) _ _ (b3 p hpm).shp hpin, b3 p hpm, hstp p hpm, dp_mem hd hpm', by have := sz_mem hpm'; omega, by omega, fun v' H5 hv W5 n5 => ?_⟩
      have eD5 := n5 D _ Dd Dg eD (by intro _ q; cases q)
      have off : TupK H5 (upd H5 D (.lst (ys ++ [v']))) := (TupK.of (Ext.refl H5)).off eD5
      refine ⟨ys, eD5, by rw [sizeLine_eq]; omega, ys ++ [v'], upd_same, ?_, (n4.trans n5).updD hD, ?_⟩
      · rw [tkN_snoc hpi]
        exact (W5.mono (by omega)).off eD5 Dd Dg Dc
      · rw [take_snoc hpi]
        exact each_app (R := fun y p => LRes K L p _ y) (hv.tk off) (hys.mono fun y p q => q.tk ((W4.G.tk n5).trans off))
    · rintro H4 ⟨ys, eD, W4, n4, hys⟩
      rw [hgd.len, List.take_length] at W4 hys
      have P4 := lres_pt hys
      have n04 := n0.trans n4
      have dg4 : DGet H4 ka (.str y) (some (.str ln.2.1)) := by
        rw [← hkv]
        exact DGet.k (k := Sum.inr y) (hid_got (n04.hid _ _ hka (by intro _ z; cases z))).2.2
      refine ⟨_, rfl, _, rfl, a, xs, 0, _, rfl, rfl, (W.G.tk n04).sqt hx, atI_nat (j := 0) e0, ka, _, rfl, dg4, _, _, rfl, ?_⟩
      have hyl := hys.length
      generalize hS : 2 * (ps.map points).sum = S at *
      generalize hM : 2 * maxl (ps.map deep) = M at *
      have lenZ : ∀ {hs : List G}, hs.map (laid L) = ps.map (laid L) → hs.length = ps.length := fun {hs} e => by simpa using congrArg List.length e
      refine ⟨fun σ' H5 => ∃ (l : Addr) (ys : List V) (v5 v6 v7 : Option V), σ' = [some (.ref d), some (.ref ka), some (.ref a), some (.str ln.2.1), some (.ref l), v5, v6, v7, none, none, none] ∧ Wd TT d g c (t + tkN ps + ps.length) H5 ∧ Kn d g H H5 ∧ H5 l = some (.lst ys) ∧ Pt K L ps.length S M (fun hs => (∀ h ∈ hs, stands L h = true) ∧ hs.length = ps.length ∧ arr (kindOf L y) y (hs.map (laid L)) = arr (kindOf L y) y (ps.map (laid L))) H5 ys ∧ l ≠ d ∧ l ≠ g, ?_, ?_⟩
      · refine ⟨_, rfl, (by show 2 ≤ sizeLine; decide), fun r hr0 => ⟨.str ln.2.1, [.str "pair", .str "heap"], .str _, .tup (SqT.of upd_same) (.cons (.str _) (.cons (.str _) .nil)), sk, by decide +kernel, _, rfl, ?_⟩⟩
        have s1 := Same.new (o := .tup [.str "pair", .str "heap"]) (Same.refl H4) hr0
        refine ite2 (fun h2 => ?_) (fun h2 => ⟨D, ys, none, none, none, rfl, (W4.same s1).mono (by omega), n04.trans (.same s1), s1 _ _ eD, (P4.tk (TupK.of (Ext.of s1))).mono (Nat.le_refl _) (Nat.le_refl _) fun hs z => ⟨z.2, lenZ z.1, by rw [z.1]⟩, Dd, Dg⟩)
        refine ⟨_, rfl, (by show 0 ≤ sizeLine; decide), fun D2 hD2 => ⟨_, _, rfl, ?_⟩⟩
        have s2 := Same.new (o := .lst []) s1 hD2
        have nDD : D2 ≠ D := fun z => by rw [z, s1 _ _ eD] at hD2; cases hD2
        have W1 := W4.same s1
        obtain ⟨D2d, D2g⟩ := W1.G.nd hD2
        have D2c := W1.G.nc hD2
        have nF : Kn d g H _ := n04.trans (.same s1)
        refine ⟨_, rfl, D, ys, rfl, .inl (SqL.of (s2 _ _ eD)), _, rfl, by omega, by omega, ?_⟩
        refine for_range (lo := 0) (n := ys.length) (fun i σ' H6 => ∃ (zs us : List V) (v7 : Option V), σ' = [some (.ref d), some (.ref ka), some (.ref a), some (.str ln.2.1), some (.ref D2), none, some (.ref D), v7, none, none, none] ∧ H6 D = some (.lst zs) ∧ H6 D2 = some (.lst us) ∧ ys.Perm (zs ++ us) ∧ us.length = i ∧ Wd TT d g c (t + tkN ps + i) H6 ∧ Kn d g H H6 ∧ TupK H4 H6)
          ⟨ys, [], none, rfl, s2 _ _ eD, upd_same, by rw [List.append_nil], rfl, W4.same s2, n04.trans (.same s2), TupK.of (Ext.of s2)⟩ ?_ ?_
        · rintro i σ' H6 hi ⟨zs, us, v7, rfl, eD6, eD26, hpm, hul, W6, n6, tk6⟩
          have hpl2 := hpm.length_eq
          rw [List.length_append] at hpl2
          refine ⟨_, rfl, .inl ⟨rfl, _, SqL.of eD26⟩, _, rfl, .inl ⟨rfl, _, SqL.of eD6⟩, _, rfl, _, rfl, D, zs, rfl, .inl (SqL.of eD6), d, g, c, _, _, rfl, W6.G, by omega, by omega, by omega, fun u H7 u0 u1 G7 k7 => ?_⟩
          have eD7 := k7 D _ Dd Dg eD6
          have eD27 := k7 D2 _ D2d D2g eD26
          have W7 := W6.kp G7 k7
          obtain ⟨y', hy'⟩ : ∃ y', zs[u.toNat]? = some y' := ⟨zs[u.toNat]'(by omega), List.getElem?_eq_getElem (by omega)⟩
          refine ⟨D, zs, u, u.toNat, y', rfl, rfl, eD7, by omega, by omega, seq_ix u0 u1, hy', ?_⟩
          have hpl3 := pop_len hy'
          refine ⟨D2, us, y', rfl, rfl, by rw [upd_ne nDD]; exact eD27, by rw [sizeLine_eq]; omega, zs.eraseIdx u.toNat, us ++ [y'], _, rfl, by rw [upd_ne nDD.symm, upd_same], upd_same, ?_, by rw [List.length_append, hul]; rfl, ?_, ?_, ?_⟩
          · refine hpm.trans (((pop_perm hy').append_right us).trans ?_)
            rw [← List.append_assoc]
            exact (List.perm_append_singleton y' _).symm
          · exact ((W7.mono (by omega)).off eD7 Dd Dg Dc).off (by rw [upd_ne nDD]; exact eD27) D2d D2g D2c
          · exact ((n6.trans (.kp k7)).updF n0 hD).updF nF hD2
          · have tk7 : TupK H4 H7 := tk6.trans (W6.G.tk (.kp k7))
            exact (tk7.off eD7).off (by rw [upd_ne nDD]; exact eD27)
        · rintro σ' H6 ⟨zs, us, v7, rfl, eD6, eD26, hpm, hul, W6, n6, tk6⟩
          have hpl2 := hpm.length_eq
          rw [List.length_append] at hpl2
          have hz0 : zs = [] := List.eq_nil_of_length_eq_zero (by omega)
          rw [hz0, List.nil_append] at hpm
          exact ⟨D2, us, none, _, v7, rfl, W6.mono (by omega), n6, eD26, (P4.tk tk6).perm hpm fun gs hs p z => ⟨fun h hh => z.2 h (p.mem_iff.mpr hh), by rw [← p.length_eq]; exact lenZ z.1, by
            rw [← z.1]
            refine (arr_permL (fun g hg => ?_) (by rw [ekd]; exact h2) (p.map (laid L))).symm
            obtain ⟨q, hq, rfl⟩ := List.mem_map.mp hg
            exact gokS q (z.2 q hq)⟩, D2d, D2g⟩
      · rintro σ' H5 ⟨l, ys5, v5, v6, v7, rfl, W5, n5, eL, P5, ld, lg⟩
        have hl5 := P5.len
        refine ⟨fun σ' H6 => ∃ (l : Addr) (ys : List V) (v5 v6 v7 v8 v9 v10 : Option V), σ' = [some (.ref d), some (.ref ka), some (.ref a), some (.str ln.2.1), some (.ref l), v5, v6, v7, v8, v9, v10] ∧ Wd TT d g c (t + (4 * points (.t (.s y :: ps)) - 1)) H6 ∧ Kn d g H H6 ∧ H6 l = some (.lst ys) ∧ Pt K L ps.length (S + 1) (M + 1) (fun hs => stands L (.t (.s y :: hs)) = true ∧ arr (kindOf L y) y (hs.map (laid L)) = arr (kindOf L y) y (ps.map (laid L))) H6 ys, ?_, ?_⟩
        · refine ⟨_, rfl, (by show 2 ≤ sizeLine; decide), fun r hr0 => ⟨.str ln.2.1, [.str "row", .str "heap"], .str _, .tup (SqT.of upd_same) (.cons (.str _) (.cons (.str _) .nil)), sk, by decide +kernel, _, rfl, ?_⟩⟩
          have s1 := Same.new (o := .tup [.str "row", .str "heap"]) (Same.refl H5) hr0
          have no : ∀ (H6 : Hp) (t6 : Nat) (v8 v9 v10 : Option V), Wd TT d g c t6 H6 → t6 ≤ t + tkN ps + ps.length + 3 → Kn d g H5 H6 → H6 l = some (.lst ys5) → ∃ (l' : Addr) (ys : List V) (w5 w6 w7 w8 w9 w10 : Option V), [some (V.ref d), some (.ref ka), some (.ref a), some (.str ln.2.1), some (.ref l), v5, v6, v7, v8, v9, v10] = [some (.ref d), some (.ref ka), some (.ref a), some (.str ln.2.1), some (.ref l'), w5, w6, w7, w8, w9, w10] ∧ Wd TT d g c (t + (4 * points (.t (.s y :: ps)) - 1)) H6 ∧ Kn d g H H6 ∧ H6 l' = some (.lst ys) ∧ Pt K L ps.length (S + 1) (M + 1) (fun hs => stands L (.t (.s y :: hs)) = true ∧ arr (kindOf L y) y (hs.map (laid L)) = arr (kindOf L y) y (ps.map (laid L))) H6 ys := fun H6 t6 v8 v9 v10 W6 h6 n6 e6 =>
            ⟨l, ys5, v5, v6, v7, v8, v9, v10, rfl, W6.mono (by omega), n5.trans n6, e6, (P5.tk (W5.G.tk n6)).mono (by omega) (by omega) fun hs z => ⟨by rw [stands_t, z.2.1, hst'.1, Bool.true_and]; exact List.all_eq_true.mpr z.1, z.2.2⟩⟩
          have W1 := W5.same s1
          have nk1 : Kn d g H5 _ := .same s1
          have e1 := s1 _ _ eL
          refine ite2 (fun h2 => ?_) (fun h2 => no _ _ _ _ _ W1 (by omega) nk1 e1)
          refine ⟨_, rfl, l, ys5, rfl, .inl (SqL.of e1), _, _, rfl, rfl, _, rfl, ?_⟩
          refine ite2 (fun h3 => ?_) (fun h3 => no _ _ _ _ _ W1 (by omega) nk1 e1)
          have h3' : (2 : Int) < ys5.length := by simpa using h3
          refine ⟨_, rfl, d, g, c, _, 2, rfl, W1.G, by omega, by decide, by decide, fun u2 H6 u20 u21 G6 k6 => ⟨rfl, _, rfl, ?_⟩⟩
          have W6 := W1.kp G6 k6
          have nk6 := nk1.trans (.kp k6)
          have e6 := k6 l _ ld lg e1
          refine ite2 (fun h4 => ?_) (fun h4 => no _ _ _ _ _ W6 (by omega) nk6 e6)
          refine ⟨_, rfl, _, rfl, l, ys5, rfl, .inl (SqL.of e6), _, _, rfl, rfl, d, g, c, _, _, rfl, W6.G, by omega, by omega, by omega, fun at' H7 a0 a1 G7 k7 => ?_⟩
          have W7 := W6.kp G7 k7
          have nk7 := nk6.trans (.kp k7)
          have e7 := k7 l _ ld lg e6
          refine ⟨_, rfl, _, _, rfl, rfl, _, rfl, _, rfl, l, ys5, rfl, .inl (SqL.of e7), _, rfl, _, _, rfl, rfl, _, _, rfl, rfl, d, g, c, _, _, rfl, W7.G, by omega, by omega, by omega, fun u3 H8 u30 u31 G8 k8 => ⟨_, _, rfl, rfl, ?_⟩⟩
          have W8 := W7.kp G8 k8
          have nk8 := nk7.trans (.kp k8)
          have e8 := k8 l _ ld lg e7
          refine ⟨_, rfl, _, rfl, _, _, rfl, rfl, _, rfl, l, ys5, rfl, .inl (SqL.of e8), _, _, rfl, rfl, _, rfl, ?_⟩
          refine ite2 (fun h5 => ?_) (fun h5 => no _ _ _ _ _ W8 (by omega) nk8 e8)
          have w7 : at' < ys5.length - 1 := by omega
          obtain ⟨A, rfl⟩ := Int.eq_ofNat_of_zero_le a0
          obtain ⟨E', rfl⟩ := Int.eq_ofNat_of_zero_le u30
          have hE : ((A : Int) + 2 + (E' : Int)) = ((A + 2 + E' : Nat) : Int) := by omega
          have hEl : A + 2 + E' ≤ ys5.length := by omega
          have s9 := Same.refl H8
          have tk8 := (W5.G.tk nk8)
          have hx8 : SqT K H8 a xs := (W.G.tk (n5.trans nk8)).sqt hx
          have hcm := cut_mid (xs := ys5) A (A + 2 + E') (by omega) hEl
          refine ⟨_, rfl, a, xs, 0, _, rfl, rfl, hx8, atI_nat (j := 0) e0, (by show 1 ≤ sizeLine; decide), fun q1 hq1 => ?_⟩
          have s9 := Same.new (o := .tup [.str y]) (Same.refl H8) hq1
          refine ⟨_, rfl, _, rfl, _, rfl, _, rfl, _, rfl, l, ys5, rfl, SqL.of (s9 _ _ e8), fun q2 hq2 => ?_⟩
          rw [← hE] at hcm
          rw [show A + 2 + E' - A = 2 + E' by omega] at hcm
          have hzl : (cutV ys5 (some (A : Int)) (some ((A : Int) + 2 + (E' : Int)))).length = 2 + E' := by
            rw [hcm, List.length_take, List.length_drop]
            omega
          have s10 := Same.new (o := .lst (cutV ys5 (some (A : Int)) (some ((A : Int) + 2 + (E' : Int))))) s9 hq2
          refine ⟨q2, _, rfl, .inl ⟨SqL.of upd_same, fun q3 hq3 => ?_⟩⟩
          have s11 := Same.new (o := .tup (cutV ys5 (some (A : Int)) (some ((A : Int) + 2 + (E' : Int))))) s10 hq3
          have x1 := Same.new (o := .tup (cutV ys5 (some (A : Int)) (some ((A : Int) + 2 + (E' : Int))))) (Same.new (o := .lst (cutV ys5 (some (A : Int)) (some ((A : Int) + 2 + (E' : Int))))) (Same.refl _) hq2) hq3 q1 _ (upd_same (H := H8) (a := q1) (o := .tup [.str y]))
          refine ⟨q1, q3, [.str y], _, rfl, rfl, SqT.of x1, SqT.of upd_same, by simp, by simp only [List.length_cons, List.length_nil]; rw [hzl, sizeLine_eq]; omega, fun e => absurd (congrArg List.length e) (by rw [hzl]; simp), fun _ p2 hp2 => ?_⟩
          have s12 := Same.new (o := .tup ([.str y] ++ cutV ys5 (some (A : Int)) (some ((A : Int) + 2 + (E' : Int))))) s11 hp2
          generalize hHa : upd _ p2 (.tup ([.str y] ++ cutV ys5 (some (A : Int)) (some ((A : Int) + 2 + (E' : Int))))) = Ha at s12
          have xg : Ha p2 = some (.tup ([.str y] ++ cutV ys5 (some (A : Int)) (some ((A : Int) + 2 + (E' : Int))))) := by rw [← hHa]; exact upd_same
          have hto := cut_to (xs := ys5) A (by omega)
          have hfr := cut_fr (xs := ys5) (A + 2 + E') hEl
          rw [← hE] at hfr
          refine ⟨_, rfl, _, rfl, _, rfl, l, ys5, rfl, SqL.of (s12 _ _ e8), fun p3 hp3 => ?_⟩
          have s13 := Same.new (o := .lst (cutV ys5 none (some (A : Int)))) (Same.refl Ha) hp3
          refine ⟨_, rfl, (by show 1 ≤ sizeLine; decide), fun p4 hp4 => ?_⟩
          have s14 := Same.new (o := .lst [.ref p2]) s13 hp4
          have y3 := Same.new (o := .lst [.ref p2]) (Same.refl _) hp4 p3 _ upd_same
          refine ⟨p3, p4, _, _, rfl, rfl, y3, upd_same, by rw [hto, List.length_take, sizeLine_eq]; simp only [List.length_cons, List.length_nil]; omega, fun p5 hp5 => ?_⟩
          have s15 := Same.new (o := .lst (cutV ys5 none (some (A : Int)) ++ [.ref p2])) s14 hp5
          refine ⟨_, rfl, _, rfl, _, rfl, l, ys5, rfl, SqL.of (s15 _ _ (s12 _ _ e8)), fun p6 hp6 => ?_⟩
          have s16 := Same.new (o := .lst (cutV ys5 (some ((A : Int) + 2 + (E' : Int))) none)) s15 hp6
          have y5 := Same.new (o := .lst (cutV ys5 (some ((A : Int) + 2 + (E' : Int))) none)) (Same.refl _) hp6 p5 _ upd_same
          refine ⟨p5, p6, _, _, rfl, rfl, y5, upd_same, by rw [hto, hfr, List.length_append, List.length_take, List.length_drop, sizeLine_eq]; simp only [List.length_cons, List.length_nil]; omega, fun p7 hp7 => ?_⟩
          have s17 := Same.new (o := .lst ((cutV ys5 none (some (A : Int)) ++ [.ref p2]) ++ cutV ys5 (some ((A : Int) + 2 + (E' : Int))) none)) s16 hp7
          have sF := s12.trans s17
          refine ⟨p7, _, v5, v6, v7, _, _, _, rfl, (W8.same sF).mono (by omega), (n5.trans nk8).trans (.same sF), upd_same, ?_⟩
          rw [hto, hfr]
          have P8 := P5.tk (tk8.trans (TupK.of (Ext.of sF)))
          rw [hto, hfr] at P8
          have er : rowish (kindOf L y) = true := by rw [ekd]; exact h2
          refine P8.group (by omega) hEl b1 b2 ?_ fun hs hl z => ⟨?_, by
            rw [arr_group (fun g hg => gokS g (z.1 g hg)) er (by rw [← m2]; exact ok.nm ln m1) (by omega)]
            exact z.2.2⟩
          rotate_left
          · have h8 : 2 ≤ ps.length ∧ ps.length ≤ 8 := by
              have := hst'.1
              simp only [hasParts, hfi] at this
              rw [ekd] at er
              rw [if_pos er] at this
              exact of_decide_eq_true this
            have h5' : ((A : Int) + 2 + (E' : Int)) - A < ys5.length := by simpa using h5
            have hl2 := z.2.1
            have hp : ∀ n, 2 ≤ n → n ≤ 8 → hasParts L (.s y) n = true := fun n a b => by
              rw [ekd] at er
              simp only [hasParts, hfi, if_pos er]
              exact decide_eq_true ⟨a, b⟩
            rw [stands_t, Bool.and_eq_true_iff]
            refine ⟨hp _ ?_ ?_, List.all_eq_true.mpr fun q hq => ?_⟩
            · simp only [List.length_append, List.length_take, List.length_drop, List.length_cons, List.length_nil]
              omega
            · simp only [List.length_append, List.length_take, List.length_drop, List.length_cons, List.length_nil]
              omega
            · rcases List.mem_append.mp hq with hq | hq
              · rcases List.mem_append.mp hq with hq | hq
                · exact z.1 q (List.mem_of_mem_take hq)
                · rw [List.mem_singleton.mp hq, stands_t, Bool.and_eq_true_iff]
                  refine ⟨hp _ ?_ ?_, List.all_eq_true.mpr fun r hr => z.1 r (List.mem_of_mem_drop (List.mem_of_mem_take hr))⟩
                  · rw [List.length_take, List.length_drop]
                    omega
                  · rw [List.length_take, List.length_drop]
                    omega
              · exact z.1 q (List.mem_of_mem_drop hq)
          rw [hto, hfr] at s17
          have z := s17 _ _ xg
          rw [hcm] at z
          rw [show A + 2 + E' - A = 2 + E' by omega]
          exact SqT.of z
        · rintro σ' H6 ⟨l, ys6, v5, v6, v7, v8, v9, v10, rfl, W6, n6, eL6, P6⟩
          have hl6 := P6.len
          have hx6 : SqT K H6 a xs := (W.G.tk n6).sqt hx
          refine ⟨_, rfl, a, xs, 0, _, rfl, rfl, hx6, atI_nat (j := 0) e0, (by show 1 ≤ sizeLine; decide), fun q1 hq1 => ?_⟩
          have s7 := Same.new (o := .tup [.str y]) (Same.refl H6) hq1
          refine ⟨_, rfl, l, ys6, rfl, .inl ⟨SqL.of (s7 _ _ eL6), fun u hu => ?_⟩⟩
          have s8 := Same.new (o := .tup ys6) s7 hu
          have nq : q1 ≠ u := fun e => by rw [← e, upd_same] at hu; cases hu
          have fin : ∀ (H7 : Hp) (p : Addr), Same H6 H7 → SqT K H7 p (.str y :: ys6) → Q (.ref p) H7 := fun H7 p sm hpp => by
            obtain ⟨gs, i1, i2, i3, i4, i5, i6, i7⟩ := P6.tk (TupK.of (Ext.of sm))
            refine k _ _ ⟨.t (.s y :: gs), .t hpp (.cons (.s y) i1), Ok.mk' b1 b2 i3, ?_, ?_, i6, by rw [laid_t, laid_t, i7]⟩ (W6.same sm) (n6.trans (.same sm))
            · rw [points_t]
              omega
            · rw [deep_t]
              omega
          refine ⟨q1, u, [.str y], ys6, rfl, rfl, SqT.of (by rw [upd_ne nq, upd_same]), SqT.of upd_same, by simp, by simp only [List.length_cons, List.length_nil]; rw [sizeLine_eq]; omega, fun e => ?_, fun _ p hp => ?_⟩
          · refine fin _ _ s8 ?_
            rw [e]
            exact SqT.of (by rw [upd_ne nq, upd_same])
          · exact fin _ _ (Same.new s8 hp) (SqT.of upd_same)
end
end K1
set_option Elab.async false
set_option linter.all false
set_option maxRecDepth 100000
set_option maxHeartbeats 2000000
namespace K1
open PySem PySem.Spec PyProof.Rows L2
open PySem.W (EachIs)
abbrev sDraftT : Stmt := topS 59
abbrev nDraftT : List Str := ["_law_state", "_law_kinds_here", "_law_tree", "_law_found"]
/-- a draft of it -/
def DftIn (K : PySem.W.Frag) (L : List Ln) (g : G) (H : Hp) (y : V) : Prop := ∃ g', In K H y g' ∧ Ok L g' ∧ points g' ≤ 80 ∧ deep g' ≤ 12 ∧ Dft L g g'
def spDraftT (K : PySem.W.Frag) (TT : List (Addr × Str)) : Sp := fun vs H Q _ => ∃ (d g c ka : Addr) (t : Nat) (L : List Ln) (v : V) (gg : G), vs = [.ref d, .ref ka, v] ∧ Wd TT d g c t H ∧ hid [d, g] H ka = some (.dK (kd L)) ∧ LOk L ∧ In K H v gg ∧ Ok L gg ∧ stands L gg = true ∧ points gg ≤ 80 ∧ deep gg ≤ 12 ∧ t + 320 < 2 ^ 30 ∧
  ∀ v' H', DftIn K L gg H' v' → Wd TT d g c (t + 320) H' → Kn d g H H' → Q v' H'
/-- no dict within; no list within -/
def nod : G → Bool
  | .t ps => (ps.map nod).all id
  | .l ps => (ps.map nod).all id
  | .o (.dict _) => false
  | _ => true
def nol : G → Bool
  | .t ps => (ps.map nol).all id
  | .l _ => false
  | _ => true
theorem nod_t (ps : List G) : nod (.t ps) = ps.all nod := by
  rw [nod, List.all_map]
  rfl
theorem nol_t (ps : List G) : nol (.t ps) = ps.all nol := by
  rw [nol, List.all_map]
  rfl
theorem nod_l (ps : List G) : nod (.l ps) = ps.all nod := by
  rw [nod, List.all_map]
  rfl
theorem shp_no (n : Nat) : ∀ g, dp g ≤ n → shp g = true → nod g = true ∧ nol g = true := by
  induction n with
  | zero =>
    intro g h
    have := dp_pos g
    omega
  | succ n ih =>
    intro g hd hs
    rcases shp_cases hs with ⟨x, rfl⟩ | ⟨x, ps, rfl, hp⟩
    · simp [nod, nol]
    · rw [nod_t, nol_t, List.all_eq_true, List.all_eq_true]
      have key : ∀ p ∈ G.s x :: ps, nod p = true ∧ nol p = true := fun p hm => by
        rcases List.mem_cons.mp hm with rfl | hm
        · simp [nod, nol]
        · exact ih p (dp_mem hd (List.mem_cons_of_mem _ hm)) (hp p hm)
      exact ⟨fun p hm => (key p hm).1, fun p hm => (key p hm).2⟩
/-- fine, and not of dicts and lists at once -/
structure Fk (g : G) : Prop where
  f : fine g = true
  k : nod g = true ∨ nol g = true
/-- fine, and built as a term -/
structure Fs (g : G) : Prop where
  f : fine g = true
  s : shp g = true
theorem Fs.no {g : G} (h : Fs g) : nod g = true ∧ nol g = true := shp_no _ g (Nat.le_refl _) h.s
theorem Fs.fk {g : G} (h : Fs g) : Fk g := ⟨h.f, .inl h.no.1⟩
theorem Fs.str {x : Str} (h : x.length ≤ 10 ∧ PyData.strOk x = true) : Fs (.s x) := ⟨by rw [fine]; simp [h.1, h.2], by rw [shp]⟩
theorem fk_t {gs : List G} {q : G} (hq : Fk q) (h : ∀ g ∈ gs, g = q ∨ Fs g) : Fk (.t gs) := by
  refine ⟨fine_mk fun g hg => ?_, ?_⟩
  · rcases h g hg with rfl | z
    · exact hq.f
    · exact z.f
  · rcases hq.k with z | z
    · refine .inl ?_
      rw [nod_t, List.all_eq_true]
      intro g hg
      rcases h g hg with rfl | y
      · exact z
      · exact y.no.1
    · refine .inr ?_
      rw [nol_t, List.all_eq_true]
      intro g hg
      rcases h g hg with rfl | y
      · exact z
      · exact y.no.2
theorem fk_all {gs : List G} (h : ∀ g ∈ gs, Fs g) : Fk (.t gs) := fk_t (q := .s "a") (Fs.str (by decide +kernel)).fk fun g hg => .inr (h g hg)
theorem fk_l {gs : List G} (h : ∀ g ∈ gs, Fs g) : Fk (.l gs) := ⟨by rw [fine_l, List.all_eq_true]; exact fun g hg => (h g hg).f, .inl (by rw [nod_l, List.all_eq_true]; exact fun g hg => (h g hg).no.1)⟩
/-- something, no more than so great -/
def Pk (K : PySem.W.Frag) (H : Hp) (N D : Nat) (x : V) : Prop := ∃ g, In K H x g ∧ Fk g ∧ sz g ≤ N ∧ dp g ≤ D
theorem Pk.ext {K : PySem.W.Frag} {H H' : Hp} {N D : Nat} {x : V} (h : Pk K H N D x) (s : Ext H H') : Pk K H' N D x := by
  obtain ⟨g, h1, h2⟩ := h
  exact ⟨g, h1.ext s, h2⟩
theorem Pk.mono {K : PySem.W.Frag} {H : Hp} {N D N' D' : Nat} {x : V} (h : Pk K H N D x) (h1 : N ≤ N') (h2 : D ≤ D') : Pk K H N' D' x := by
  obtain ⟨g, a1, a2, a3, a4⟩ := h
  exact ⟨g, a1, a2, by omega, by omega⟩
theorem sz_o {d : PyData} : sz (.o d) = 1 := by simp [sz]
theorem dp_o {d : PyData} : dp (.o d) = 1 := by simp [dp]
theorem fine_o {d : PyData} (h : oddB d = true) : fine (.o d) = true := by simp [fine, h]
theorem Pk.str {K : PySem.W.Frag} {H : Hp} {N D : Nat} (x : Str) (h : x.length ≤ 10 ∧ PyData.strOk x = true) (hN : 1 ≤ N) (hD : 1 ≤ D) : Pk K H N D (.str x) := ⟨.s x, .s x, (Fs.str h).fk, by simp [sz]; exact hN, by simp [dp]; exact hD⟩
theorem Pk.non {K : PySem.W.Frag} {H : Hp} {N D : Nat} (hN : 1 ≤ N) (hD : 1 ≤ D) : Pk K H N D .non := ⟨.o .none, .non, ⟨fine_o rfl, .inl (by simp [nod])⟩, by rw [sz_o]; exact hN, by rw [dp_o]; exact hD⟩
theorem Pk.bl {K : PySem.W.Frag} {H : Hp} {N D : Nat} (b : Bool) (hN : 1 ≤ N) (hD : 1 ≤ D) : Pk K H N D (.bl b) := ⟨.o (.bool b), .bl b, ⟨fine_o rfl, .inl (by simp [nod])⟩, by rw [sz_o]; exact hN, by rw [dp_o]; exact hD⟩
theorem Pk.int {K : PySem.W.Frag} {H : Hp} {N D : Nat} (i : Int) (hN : 1 ≤ N) (hD : 1 ≤ D) (hi : i.natAbs < 100 := by decide) : Pk K H N D (.int i) := ⟨.o (.int i), .int i, ⟨fine_o (decide_eq_true hi), .inl (by simp [nod])⟩, by rw [sz_o]; exact hN, by rw [dp_o]; exact hD⟩
theorem Pk.lst {K : PySem.W.Frag} {H : Hp} {N D : Nat} {a : Addr} {xs : List V} {gs : List G} (h : H a = some (.lst xs)) (r : InL K H xs gs) (hf : ∀ g ∈ gs, Fs g) (hN : 1 + (gs.map sz).sum ≤ N) (hD : 1 + maxl (gs.map dp) ≤ D) : Pk K H N D (.ref a) :=
  ⟨.l gs, .lst h r, fk_l hf, by rw [sz_l]; exact hN, by rw [dp_l]; exact hD⟩
theorem Pk.dic {K : PySem.W.Frag} {H : Hp} {N D : Nat} {a : Addr} (h : H a = some (.dK [])) (hN : 1 ≤ N) (hD : 1 ≤ D) : Pk K H N D (.ref a) := ⟨.o (.dict []), .dic h, ⟨fine_o rfl, .inr (by simp [nol])⟩, by rw [sz_o]; exact hN, by rw [dp_o]; exact hD⟩
theorem Pk.tup {K : PySem.W.Frag} {H : Hp} {N D : Nat} {a : Addr} {xs : List V} {gs : List G} (h : H a = some (.tup xs)) (r : InL K H xs gs) (hf : Fk (.t gs)) (hN : 1 + (gs.map sz).sum ≤ N) (hD : 1 + maxl (gs.map dp) ≤ D) : Pk K H N D (.ref a) :=
  ⟨.t gs, .t (SqT.of h) r, hf, by rw [sz_t]; exact hN, by rw [dp_t]; exact hD⟩
def PkL (K : PySem.W.Frag) (H : Hp) (N D : Nat) (xs : List V) : Prop := ∀ x ∈ xs, Pk K H N D x
theorem PkL.nil {K : PySem.W.Frag} {H : Hp} {N D : Nat} : PkL K H N D [] := fun _ z => absurd z (by simp)
theorem PkL.cons {K : PySem.W.Frag} {H : Hp} {N D : Nat} {x : V} {xs : List V} (h : Pk K H N D x) (t : PkL K H N D xs) : PkL K H N D (x :: xs) := fun y hy => by
  rcases List.mem_cons.mp hy with rfl | hy
  · exact h
  · exact t y hy
theorem PkL.app {K : PySem.W.Frag} {H : Hp} {N D : Nat} {xs ys : List V} (h : PkL K H N D xs) (t : PkL K H N D ys) : PkL K H N D (xs ++ ys) := fun y hy => by
  rcases List.mem_append.mp hy with hy | hy
  · exact h y hy
  · exact t y hy
theorem PkL.ext {K : PySem.W.Frag} {H H' : Hp} {N D : Nat} {xs : List V} (h : PkL K H N D xs) (s : Ext H H') : PkL K H' N D xs := fun y hy => (h y hy).ext s
theorem PkL.snoc {K : PySem.W.Frag} {d g : Addr} {H H' : Hp} {N D : Nat} {x : V} {xs : List V} (h : PkL K (hid [d, g] H) N D xs) (s : Same H H') (q : Pk K (hid [d, g] H') N D x) : PkL K (hid [d, g] H') N D (xs ++ [x]) := (h.ext (.of (hid_same s))).app (.cons q .nil)
theorem fine_app {ps qs : List G} (h1 : ∀ p ∈ ps, fine p = true) (h2 : ∀ p ∈ qs, fine p = true) : fine (.t (ps ++ qs)) = true := fine_mk fun p hp => by
  rcases List.mem_append.mp hp with hp | hp
  · exact h1 p hp
  · exact h2 p hp
theorem sum_dropLe (ns : List Nat) (i : Nat) : (ns.drop i).sum ≤ ns.sum := by
  have h2 : ns = ns.take i ++ ns.drop i := (List.take_append_drop _ _).symm
  have : ns.sum = (ns.take i).sum + (ns.drop i).sum := by
    conv => lhs; rw [h2]
    rw [List.sum_append]
  omega
/-- a part exchanged -/
theorem swap_ok {ps : List G} {A : Nat} {p q : G} {N D : Nat} (hp : ps[A]? = some p) (hf : ∀ g ∈ ps, Fs g) (hq : Fk q) (h1 : sz q ≤ 2 * sz p + 30) (h2 : dp q ≤ dp p + 3) :
    Fk (.t (ps.take A ++ [q] ++ ps.drop (A + 1))) ∧ sz (.t (ps.take A ++ [q] ++ ps.drop (A + 1))) ≤ 2 * sz (.t ps) + 30 ∧ dp (.t (ps.take A ++ [q] ++ ps.drop (A + 1))) ≤ dp (.t ps) + 3 := by
  have e1 : (ps.map sz).sum = ((ps.map sz).take A).sum + sz p + ((ps.map sz).drop (A + 1)).sum := by
    have h := take_snoc (l := ps.map sz) (i := A) (x := sz p) (by rw [List.getElem?_map, hp]; rfl)
    conv => lhs; rw [← List.take_append_drop (A + 1) (ps.map sz)]
    rw [List.sum_append, h, List.sum_append]
    simp
  have e2 := le_maxl (List.mem_map.mpr ⟨p, List.mem_of_getElem? hp, rfl⟩ : dp p ∈ ps.map dp)
  have e3 := maxl_take (ps.map dp) A
  have e4 := maxl_drop (ps.map dp) (A + 1)
  refine ⟨fk_t hq fun g hg => ?_, ?_, ?_⟩
  · rcases List.mem_append.mp hg with hg | hg
    · rcases List.mem_append.mp hg with hg | hg
      · exact .inr (hf g (List.mem_of_mem_take hg))
      · exact .inl (List.mem_singleton.mp hg)
    · exact .inr (hf g (List.mem_of_mem_drop hg))
  · rw [sz_t, sz_t, List.map_append, List.map_append, List.sum_append, List.sum_append, List.map_take, List.map_drop, List.map_cons, List.map_nil]
    simp only [List.sum_cons, List.sum_nil]
    omega
  · rw [dp_t, dp_t, List.map_append, List.map_append, maxl_app, maxl_app, List.map_take, List.map_drop, List.map_cons, List.map_nil]
    show 1 + max (max _ (max _ 0)) _ ≤ _
    omega
theorem cut_whole {xs : List V} {lo hi : Option Int} (h : HT.sIx xs.length 0 lo = 0 ∧ HT.sIx xs.length xs.length hi = xs.length) : cutV xs lo hi = xs := by
  unfold cutV
  rw [h.1, h.2]
  exact List.take_of_length_le (by simp)
theorem slA_go {K : PySem.W.Frag} {H : Hp} {a : Addr} {us : List V} {lo hi : Option Int} {Q : VK} (hx : SqT K H a us) (q : ∀ r H', Same H H' → SqT K H' r (cutV us lo hi) → Q (.ref r) H') : rSlA K (.ref a) lo hi H Q :=
  ⟨a, us, rfl, hx, fun h => q a H (Same.refl H) (by rw [cut_whole h]; exact hx), fun _ p hp => q p _ (Same.new (Same.refl H) hp) (SqT.of upd_same)⟩
theorem catA_go {K : PySem.W.Frag} {H : Hp} {a b : Addr} {us ws : List V} {Q : VK} (hx : SqT K H a us) (hy : SqT K H b ws) (hl : us.length + ws.length ≤ sizeLine) (q : ∀ r H', Same H H' → SqT K H' r (us ++ ws) → Q (.ref r) H') : rCatA K (.ref a) (.ref b) H Q :=
  ⟨a, b, us, ws, rfl, rfl, hx, hy, hl, fun h => q b H (Same.refl H) (by rw [h]; exact hy), fun _ h => q a H (Same.refl H) (by rw [h, List.append_nil]; exact hx), fun _ _ p hp => q p _ (Same.new (Same.refl H) hp) (SqT.of upd_same)⟩
theorem hid3_get {d g l x : Addr} {H : Hp} {o : HO} (xd : x ≠ d) (xg : x ≠ g) (xl : x ≠ l) (e : H x = some o) : hid [d, g, l] H x = some o := by
  rw [hid_at (by simp only [List.mem_cons, List.not_mem_nil, or_false, not_or]; exact ⟨xd, xg, xl⟩)]
  exact e
theorem hid3_in {d g l : Addr} {H H' : Hp} (s : Same H H') (h : H l = none) : Same (hid [d, g] H) (hid [d, g, l] H') := fun b o e => by
  obtain ⟨h1, h2, h3⟩ := hid_got e
  exact hid3_get h1 h2 (fun z => by rw [z, h] at h3; cases h3) (s _ _ h3)
theorem hid3_out {d g l : Addr} {H : Hp} : Same (hid [d, g, l] H) (hid [d, g] H) := fun b o e => by
  unfold hid at e
  by_cases h : b ∈ [d, g, l]
  · rw [if_pos h] at e
    cases e
  · rw [if_neg h] at e
    simp only [List.mem_cons, List.not_mem_nil, or_false, not_or] at h
    exact hid_get h.1 h.2.1 e
/-- what is picked from stands at l -/
structure Bg (K : PySem.W.Frag) (TT : List (Addr × Str)) (d g c : Addr) (t : Nat) (H1 : Hp) (l : Addr) (N D : Nat) (us : List V) (ps : List G) (xs : List V) (H : Hp) : Prop where
  W : Wd TT d g c t H
  n : Kn d g H1 H
  el : H l = some (.lst xs)
  pk : PkL K (hid [d, g, l] H) N D xs
  r : InL K (hid [d, g, l] H) us ps
section
variable {K : PySem.W.Frag} {TT : List (Addr × Str)} {d g c : Addr} {t : Nat} {H1 : Hp} {l : Addr} {N D : Nat} {us : List V} {ps : List G} {xs : List V} {H H' Hb : Hp}
theorem Bg.same (b : Bg K TT d g c t H1 l N D us ps xs H) (s : Same H H') : Bg K TT d g c t H1 l N D us ps xs H' := ⟨b.W.same s, b.n.trans (.same s), s _ _ b.el, b.pk.ext (.of (hid_same s)), b.r.same (hid_same s)⟩
theorem Bg.put {x : V} (b : Bg K TT d g c t H1 l N D us ps xs H) (ld : l ≠ d) (lg : l ≠ g) (lc : l ≠ c) (nb : Kn d g H1 Hb) (hb : Hb l = none) (q : Pk K (hid [d, g, l] H) N D x) : Bg K TT d g c t H1 l N D us ps (xs ++ [x]) (upd H l (.lst (xs ++ [x]))) := by
  have e : hid [d, g, l] (upd H l (.lst (xs ++ [x]))) = hid [d, g, l] H := by
    funext b
    unfold hid
    by_cases h : b ∈ [d, g, l]
    · rw [if_pos h, if_pos h]
    · rw [if_neg h, if_neg h]
      exact upd_ne (fun z => h (by rw [z]; simp))
  exact ⟨b.W.off b.el ld lg lc, b.n.updF nb hb, upd_same, by rw [e]; exact b.pk.app (.cons q .nil), by rw [e]; exact b.r⟩
theorem Bg.tup {p : Addr} {zs : List V} {gs : List G} (b : Bg K TT d g c t H1 l N D us ps xs H) (h : SqT K H p zs) (r : InL K (hid [d, g, l] H) zs gs) (hf : ∀ g ∈ gs, Fs g) (hN : 1 + (gs.map sz).sum ≤ N) (hD : 1 + maxl (gs.map dp) ≤ D) : Pk K (hid [d, g, l] H) N D (.ref p) := by
  have tk : TupK H (hid [d, g, l] H) := fun x o e k => by
    obtain ⟨n1, n2⟩ := b.W.G.tup e k
    refine hid3_get n1 n2 (fun z => ?_) e
    rw [z, b.el] at e
    cases e
    rcases k with ⟨_, z⟩ | ⟨_, _, z⟩ <;> cases z
  exact ⟨.t gs, .t (tk.sqt h) r, fk_all hf, by rw [sz_t]; exact hN, by rw [dp_t]; exact hD⟩
end
abbrev nChg : List Str := ["_law_state", "_law_lines", "_law_matter", "_law_way", "_law_at", "_law_heads", "_law_row", "_law_some"]
def spChg (K : PySem.W.Frag) (TT : List (Addr × Str)) (n : Nat) : Sp := fun vs H Q _ => ∃ (d g c ll : Addr) (t : Nat) (L : List Ln) (v : V) (gg : G), vs = [.ref d, .ref ll, v] ∧ Wd TT d g c t H ∧ Lst K (hid [d, g] H) ll L ∧ LOk L ∧ In K (hid [d, g] H) v gg ∧ Fs gg ∧ dp gg ≤ n ∧ sz gg ≤ 20000 ∧ t + (3 * n + 3) < 2 ^ 30 ∧
  ∀ v' H', Pk K (hid [d, g] H') (2 * sz gg + 30) (dp gg + 3) v' → Wd TT d g c (t + (3 * n + 3)) H' → Kn d g H H' → Q v' H'
theorem fs_mem {ps : List G} (h : Fs (.t ps)) : ∀ p ∈ ps, Fs p := fun p hp => by
  refine ⟨fine_mem h.f hp, ?_⟩
  rcases shp_cases h.s with ⟨x, e⟩ | ⟨x, qs, e, hq⟩
  · cases e
  · cases e
    rcases List.mem_cons.mp hp with rfl | hp
    · rw [shp]
    · exact hq p hp
section
variable {P : Program} {w : World} {K : PySem.W.Frag} {mg : Str → Option Value} {base : Heap}
theorem scDraftT : FnScope nDraftT ["_law_state", "_law_kinds_here", "_law_tree"] (defScope sDraftT) := ⟨rfl, rfl, rfl, by decide +kernel, rfl, by decide +kernel, by decide +kernel⟩
theorem ok_draftT {f : Addr} {fd : FuncData} {TT : List (Addr × Str)} {n m N q : Nat} (F : Fun K "_law_draft" "_law_draft" sDraftT f fd) (DL : Df P w K mg base C8.CX0 "_law_loose" m ["_law_state", "_law_kinds_here", "_law_tree"] (spLoose K TT n))
    (DP : Df P w K mg base C8.CX0 "_law_points" q ["_law_tree"] (sp1 K N fun g => .int (points g))) (DD : Df P w K mg base C8.CX0 "_law_deep" q ["_law_tree"] (sp1 K N fun g => .int (deep g))) (hm : q ≤ m) (hn : 13 ≤ n) (hN : 25 ≤ N) :
    FnOk P w K mg base C8.CX0 (m + 1) f fd ["_law_state", "_law_kinds_here", "_law_tree"] (spDraftT K TT) := by
  refine F.ok scDraftT (fun vs H Q E h => ?_) (fun cdv A outer s H vs Q E hr h => ?_)
  · obtain ⟨d, g, c, ka, t, L, v, gg, rfl, _⟩ := h
    rfl
  · obtain ⟨d, g, c, ka, t, L, v, gg, rfl, W, hka, ok, hin, okg, hst, hp, hd, ht, k⟩ := h
    have hrq : Room q _ := hr.mono hm
    refine ⟨_, pss_cons (ps_set (i := 3) scDraftT.nd rfl (Or.inl rfl) (pe_df DL hr pass0 (pa_cons (pv 0) (pa_cons (pv 1) (pa_cons (pv 2) pa_nil))) (Nat.le_refl _)))
      (pss_one (ps_ret (pe_ifExp (PW.pt (pw_and (pt_cmpR op_le (pe_df DP hrq pass0 (pa_cons (pv 3) pa_nil) (Nat.le_refl _)) pe_int (nomark _)) (pw_and1 (pt_cmpR op_le (pe_df DD hrq pass0 (pa_cons (pv 3) pa_nil) (Nat.le_refl _)) pe_int (nomark _))))) (pv 3) (pv 2)))), ?_⟩
    have h1 := okg.sz
    have h2 := okg.dp
    refine ⟨_, rfl, _, rfl, _, rfl, d, g, c, ka, t, L, v, gg, rfl, W, hka, ok, hin, okg, hst, by omega, by omega, by omega, fun v' H1 hv W1 n1 => ?_⟩
    obtain ⟨g', i1, i2, i3, i4, i5⟩ := hv
    have W1' : Wd TT d g c (t + 320) H1 := W1.mono (by omega)
    have h1' := i2.sz
    have h2' := i2.dp
    have back : ∀ H2, Same H1 H2 → Q v H2 := fun H2 s2 => k v H2 ⟨gg, in_tk (W.G.tk (n1.trans (.same s2))) _ _ okg.shp hin, okg, by omega, by omega, hst, rfl⟩ (W1'.same s2) (n1.trans (.same s2))
    refine ⟨_, rfl, v', g', rfl, i1, i2.shp, i2.fine, by omega, by omega, fun H2 s2 => ⟨_, _, rfl, rfl, _, rfl, ?_⟩⟩
    refine ite2 (fun h3 => ?_) (fun h3 => ⟨_, rfl, back H2 s2⟩)
    have h3' : (points g' : Int) ≤ 80 := by simpa using h3
    refine ⟨_, rfl, v', g', rfl, i1.same s2, i2.shp, i2.fine, by omega, by omega, fun H3 s3 => ⟨_, _, rfl, rfl, _, rfl, ?_⟩⟩
    refine ite2 (fun h4 => ?_) (fun h4 => ⟨_, rfl, back H3 (s2.trans s3)⟩)
    have h4' : (deep g' : Int) ≤ 12 := by simpa using h4
    exact ⟨_, rfl, k v' H3 ⟨g', i1.same (s2.trans s3), i2, by omega, by omega, i5⟩ (W1'.same (s2.trans s3)) (n1.trans (.same (s2.trans s3)))⟩
end
end K1
set_option Elab.async false
set_option linter.all false
set_option maxRecDepth 100000
set_option maxHeartbeats 2000000
namespace K1
open PySem PySem.Spec PyProof.Rows L2
open PySem.W (EachIs)
theorem each_at {α β : Type} {R : α → β → Prop} : ∀ {as : List α} {bs : List β} {i : Nat} {a : α}, EachIs R as bs → as[i]? = some a → ∃ b, bs[i]? = some b ∧ R a b
  | _, _, i, a, .nil, h => by simp at h
  | _, _, 0, a, .cons (b := b) q _, h => ⟨b, rfl, by
      have e := Option.some.inj h
      rw [← e]
      exact q⟩
  | _, _, i + 1, a, .cons _ t, h => each_at (i := i) t h
abbrev sorts7 : List (Str × Nat) := [("plain", 0), ("plain", 0), ("plain", 1), ("plain", 4), ("pair", 2), ("row", 2), ("heap", 2)]
theorem sorts_ok : ∀ s ∈ sorts7, s.1 ∈ kinds4 ∧ (s.1 = "pair" → s.2 = 2) ∧ s.2 ≤ 4 := by decide +kernel
def rows7 (ws : List Str) : List Ln := ws.zip sorts7
theorem rows7_at {ws : List Str} {i : Nat} {w : Str} {s : Str × Nat} (h1 : ws[i]? = some w) (h2 : sorts7[i]? = some s) : (rows7 ws)[i]? = some (w, s) := by
  unfold rows7
  rw [List.getElem?_zip_eq_some]
  exact ⟨h1, h2⟩
theorem rows7_mem {ws : List Str} {l : Ln} (h : l ∈ rows7 ws) : l.1 ∈ ws ∧ l.2 ∈ sorts7 := List.of_mem_zip h
theorem rows7_names {ws : List Str} (h : ws.length = 7) : (rows7 ws).map (·.1) = ws := by
  show (rows7 ws).map Prod.fst = ws
  unfold rows7
  rw [List.map_fst_zip]
  rw [h]
  decide
theorem dpr_perm {K : PySem.W.Frag} {H : Hp} {ys zs : List V} (p : ys.Perm zs) : ∀ {L : List Ln}, DpAll K H ys (L.map rowD) → ∃ M, DpAll K H zs (M.map rowD) ∧ L.Perm M := by
  induction p with
  | nil => intro L h; exact ⟨L, h, .refl _⟩
  | cons x _ ih =>
    intro L h
    cases L with
    | nil => cases h
    | cons l L =>
      cases h with
      | cons h t =>
        obtain ⟨M, i1, i2⟩ := ih t
        exact ⟨l :: M, .cons h i1, i2.cons _⟩
  | swap x y l =>
    intro L h
    cases L with
    | nil => cases h
    | cons l1 L =>
      cases h with
      | cons h t =>
        cases L with
        | nil => cases t
        | cons l2 L =>
          cases t with
          | cons h' t => exact ⟨l2 :: l1 :: L, .cons h' (.cons h t), .swap _ _ _⟩
  | trans _ _ ih1 ih2 =>
    intro L h
    obtain ⟨M, i1, i2⟩ := ih1 h
    obtain ⟨N, j1, j2⟩ := ih2 i1
    exact ⟨N, j1, i2.trans j2⟩
/-- what is told of the drawn signs -/
structure Sn (L : List Ln) : Prop where
  ok : LOk L
  nd : (L.map (·.1)).Nodup
  ne : L ≠ []
  rw : ∀ l ∈ L, l.2 ∈ sorts7
theorem sn_perm {ws : List Str} {L : List Ln} (p : (rows7 ws).Perm L) (hl : ws.length = 7) (hn : ws.Nodup) (hw : ∀ w ∈ ws, nameB w = true) : Sn L := by
  have hm : ∀ l ∈ L, l.1 ∈ ws ∧ l.2 ∈ sorts7 := fun l h => rows7_mem (p.mem_iff.mpr h)
  have hlen : L.length = 7 := by
    rw [← p.length_eq]
    have := congrArg List.length (rows7_names hl)
    rw [List.length_map, hl] at this
    exact this
  refine ⟨⟨fun l h => (sorts_ok _ (hm l h).2).1, fun l h => (sorts_ok _ (hm l h).2).2.1, fun l h => hw _ (hm l h).1, by omega, fun l h => (sorts_ok _ (hm l h).2).2.2⟩, ?_, (fun z => by rw [z] at hlen; cases hlen), fun l h => (hm l h).2⟩
  have := (p.map (·.1)).nodup_iff
  rw [← this, rows7_names hl]
  exact hn
abbrev nKinds7 : List Str := ["_law_state", "_law_words_here", "_law_sorts", "_law_left", "_law_lines", "_law_k"]
def spKinds7 (K : PySem.W.Frag) (TT : List (Addr × Str)) : Sp := fun vs H Q _ => ∃ (d g c : Addr) (t : Nat), vs = [.ref d] ∧ Wd TT d g c t H ∧ t + 84 < 2 ^ 30 ∧
  ∀ (p lw ll : Addr) (ws : List Str) (L : List Ln) (xs : List V) (H' : Hp), SqT K H' p [.ref lw, .ref ll] → hid [d, g] H' lw = some (.lst (ws.map V.str)) → ws.length = 7 → (∀ w ∈ ws, nameB w = true) → hid [d, g] H' ll = some (.lst xs) → DpAll K (hid [d, g] H') xs (L.map rowD) → Sn L → Wd TT d g c (t + 84) H' → Kn d g H H' → Q (.ref p) H'
section
variable {P : Program} {w : World} {K : PySem.W.Frag} {mg : Str → Option Value} {base : Heap}
end
end K1
set_option Elab.async false
set_option linter.all false
set_option maxRecDepth 100000
set_option maxHeartbeats 2000000
namespace K1
open PySem PySem.Spec PyProof.Rows L2
/-! ### repr of any thing -/
theorem toD_s (x : Str) : toD (.s x) = .str x := by rw [toD]
theorem toD_o (d : PyData) : toD (.o d) = d := by rw [toD]
theorem showAll_g : ∀ ps : List G, (∀ p ∈ ps, PyData.showable (toD p) = true) → PyData.showableAll (ps.map toD) = true
  | [], _ => rfl
  | p :: r, h => by
    show (PyData.showable (toD p) && PyData.showableAll (r.map toD)) = true
    rw [h p List.mem_cons_self, showAll_g r fun q hq => h q (List.mem_cons_of_mem _ hq)]
    rfl
theorem shownAll_g : ∀ ps : List G, (∀ p ∈ ps, (PyData.shown (toD p)).length + 2 ≤ 110 * sz p) → ((PyData.shownAll (ps.map toD)).map (·.length)).sum + 2 * (PyData.shownAll (ps.map toD)).length ≤ 110 * (ps.map sz).sum
  | [], _ => Nat.zero_le _
  | p :: r, h => by
    have h1 := h p List.mem_cons_self
    have h2 := shownAll_g r fun q hq => h q (List.mem_cons_of_mem _ hq)
    show (PyData.shown (toD p)).length + ((PyData.shownAll (r.map toD)).map (·.length)).sum + 2 * ((PyData.shownAll (r.map toD)).length + 1) ≤ 110 * (sz p + (r.map sz).sum)
    omega
theorem depAll_g (n : Nat) : ∀ ps : List G, (∀ p ∈ ps, PyData.depth (toD p) ≤ dp p) → PyData.depthAll (ps.map toD) ≤ maxl (ps.map dp)
  | [], _ => by simp [PyData.depthAll]
  | p :: r, h => by
    have h1 := h p List.mem_cons_self
    have h2 := depAll_g n r fun q hq => h q (List.mem_cons_of_mem _ hq)
    simp only [List.map_cons, PyData.depthAll]
    show max _ _ ≤ max (dp p) (maxl (r.map dp))
    omega
structure ShG (g : G) : Prop where
  sh : PyData.showable (toD g) = true
  len : (PyData.shown (toD g)).length + 2 ≤ 110 * sz g
  dep : PyData.depth (toD g) ≤ dp g
theorem small_int : ∀ n : Nat, n < 100 → PyData.showable (.int n) = true ∧ (PyData.shown (.int n)).length ≤ 10 ∧ PyData.showable (.int (-n)) = true ∧ (PyData.shown (.int (-n))).length ≤ 10 := by decide +kernel
theorem shg_o {d : PyData} (h : oddB d = true) : ShG (.o d) := by
  have key : PyData.showable d = true ∧ (PyData.shown d).length ≤ 10 ∧ PyData.depth d ≤ 1 := by
    match d, h with
    | .none, _ => exact ⟨rfl, by decide +kernel, by simp [PyData.depth]⟩
    | .bool b, _ => cases b <;> exact ⟨rfl, by decide +kernel, by simp [PyData.depth]⟩
    | .int i, h =>
      have hi : i.natAbs < 100 := of_decide_eq_true h
      obtain ⟨a, b, c, e⟩ := small_int i.natAbs hi
      rcases Int.natAbs_eq i with z | z
      · rw [← z] at a b
        exact ⟨a, b, by simp [PyData.depth]⟩
      · rw [← z] at c e
        exact ⟨c, e, by simp [PyData.depth]⟩
    | .dict [], _ => exact ⟨rfl, by decide +kernel, by simp [PyData.depth, PyData.depthKv]⟩
  obtain ⟨a, b, c⟩ := key
  exact ⟨by rw [toD]; exact a, by rw [toD, sz_o]; omega, by rw [toD, dp_o]; exact c⟩
theorem shg (n : Nat) : ∀ g, dp g ≤ n → fine g = true → ShG g := by
  induction n with
  | zero =>
    intro g h
    have := dp_pos g
    omega
  | succ n ih =>
    intro g hd hf
    cases g with
    | s x =>
      simp only [fine, Bool.and_eq_true, decide_eq_true_iff] at hf
      have h' : x.cps.all (· < 0x110000) = true := hf.2
      rw [Array.all_eq_true_iff_forall_mem] at h'
      have q := StrLaws.reprText_len x (fun c hc => by
        have := h' c (by simpa using hc)
        simp at this
        omega)
      refine ⟨by rw [toD_s]; rfl, ?_, by rw [toD_s]; simp [PyData.depth, dp]⟩
      have e : sz (.s x) = 1 := by simp [sz]
      rw [e, toD]
      show (reprText x).length + 2 ≤ _
      omega
    | o d => exact shg_o (by rw [fine] at hf; exact hf)
    | t ps =>
      have hp : ∀ p ∈ ps, ShG p := fun p hp => ih p (dp_mem hd hp) (fine_mem hf hp)
      have h1 := shownAll_g ps fun p h => (hp p h).len
      have h2 := tupleText_len_le (PyData.shownAll (ps.map toD))
      refine ⟨?_, ?_, ?_⟩
      · rw [toD]
        show PyData.showableAll _ = true
        exact showAll_g ps fun p h => (hp p h).sh
      · rw [toD, sz_t]
        simp only [PyData.shown]
        omega
      · rw [toD, dp_t]
        have := depAll_g n ps fun p h => (hp p h).dep
        simp only [PyData.depth]
        omega
    | l ps =>
      have hp : ∀ p ∈ ps, ShG p := fun p hp => ih p (by rw [dp_l] at hd; have := le_maxl (List.mem_map.mpr ⟨p, hp, rfl⟩ : dp p ∈ ps.map dp); omega) (by rw [fine_l, List.all_eq_true] at hf; exact hf p hp)
      have h1 := shownAll_g ps fun p h => (hp p h).len
      have h2 := listText_len_le (PyData.shownAll (ps.map toD))
      refine ⟨?_, ?_, ?_⟩
      · rw [toD]
        show PyData.showableAll _ = true
        exact showAll_g ps fun p h => (hp p h).sh
      · rw [toD, sz_l]
        simp only [PyData.shown]
        omega
      · rw [toD, dp_l]
        have := depAll_g n ps fun p h => (hp p h).dep
        simp only [PyData.depth]
        omega
theorem nod_dict (n : Nat) : ∀ g, dp g ≤ n → fine g = true → nod g = true → PyData.hasDict (toD g) = false := by
  have all : ∀ ps : List G, (∀ p ∈ ps, PyData.hasDict (toD p) = false) → PyData.hasDictAll (ps.map toD) = false := fun ps => by
    induction ps with
    | nil => exact fun _ => rfl
    | cons p r ih =>
      intro h
      show (PyData.hasDict (toD p) || PyData.hasDictAll (r.map toD)) = false
      rw [h p List.mem_cons_self, ih fun q hq => h q (List.mem_cons_of_mem _ hq)]
      rfl
  induction n with
  | zero =>
    intro g h
    have := dp_pos g
    omega
  | succ n ih =>
    intro g hd hf hn
    cases g with
    | s x => rw [toD_s]; rfl
    | o d =>
      rw [toD_o]
      rw [fine] at hf
      match d, hf, hn with
      | .none, _, _ => rfl
      | .bool _, _, _ => rfl
      | .int _, _, _ => rfl
      | .dict [], _, hn => simp [nod] at hn
    | t ps =>
      rw [nod_t, List.all_eq_true] at hn
      rw [toD]
      exact all ps fun p hp => ih p (dp_mem hd hp) (fine_mem hf hp) (hn p hp)
    | l ps =>
      rw [nod_l, List.all_eq_true] at hn
      rw [toD]
      exact all ps fun p hp => ih p (by rw [dp_l] at hd; have := le_maxl (List.mem_map.mpr ⟨p, hp, rfl⟩ : dp p ∈ ps.map dp); omega) (by rw [fine_l, List.all_eq_true] at hf; exact hf p hp) (hn p hp)
section
variable {X : Cx} {pins : List (Addr × Obj)} {σ : L2.St} {H : Hp} {s : Shared}
theorem reads_l (I : Inv X pins σ H s) : ∀ (gs : List G) (vs : List V) (us : List Value), (∀ g ∈ gs, ∀ v u, In X.K H v g → RelV v u → ∃ as, Reads s.heap u (toD g) as ∧ (nol g = true → sysModules ∉ as)) → InL X.K H vs gs → Vals vs us → ∃ as, ReadsAll s.heap us (gs.map toD) as ∧ (gs.all nol = true → sysModules ∉ as)
  | [], _, _, _, .nil, .nil => ⟨[], .nil, by simp⟩
  | g :: gs, _, _, h, .cons i r, .cons q t => by
    obtain ⟨as, a1, a2⟩ := h g List.mem_cons_self _ _ i q
    obtain ⟨bs, b1, b2⟩ := reads_l I gs _ _ (fun e he => h e (List.mem_cons_of_mem _ he)) r t
    refine ⟨_, .cons a1 b1, fun z => ?_⟩
    rw [List.all_cons, Bool.and_eq_true] at z
    simp only [List.mem_append, not_or]
    exact ⟨a2 z.1, b2 z.2⟩
theorem reads_g (I : Inv X pins σ H s) (n : Nat) : ∀ (g : G) (v : V) (u : Value), dp g ≤ n → In X.K H v g → RelV v u → ∃ as, Reads s.heap u (toD g) as ∧ (nol g = true → sysModules ∉ as) := by
  induction n with
  | zero =>
    intro g v u h
    have := dp_pos g
    omega
  | succ n ih =>
    intro g v u hd hi r
    cases hi with
    | s x =>
      obtain ⟨t, rfl⟩ := r
      exact ⟨[], by rw [toD_s]; exact .str x t, by simp⟩
    | non =>
      cases r
      exact ⟨[], by rw [toD_o]; exact .none, by simp⟩
    | bl b =>
      cases r
      exact ⟨[], by rw [toD_o]; exact .bool b, by simp⟩
    | int i =>
      obtain ⟨t, rfl⟩ := r
      exact ⟨[], by rw [toD_o]; exact .int i t, by simp⟩
    | @t a xs gs h q =>
      cases r
      obtain ⟨its, rv, ⟨o, ho, hc, m, hda⟩, _⟩ := I.tuple h
      obtain ⟨as, a1, a2⟩ := reads_l I gs xs its (fun g hg v u => ih g v u (dp_mem hd hg)) q rv
      exact ⟨as, by rw [toD]; exact .tuple ho hc hda (by simpa using a1), fun z => a2 (by rw [nol_t] at z; exact z)⟩
    | @lst a xs gs h q =>
      cases r
      obtain ⟨_, its, m, rv, hob⟩ := I.hok a _ h
      obtain ⟨as, a1, a2⟩ := reads_l I gs xs its (fun g hg v u => ih g v u (by rw [dp_l] at hd; have := le_maxl (List.mem_map.mpr ⟨g, hg, rfl⟩ : dp g ∈ gs.map dp); omega)) q rv
      exact ⟨a :: as, by rw [toD]; exact .list hob rfl rfl (by simpa using a1), fun z => by simp [nol] at z⟩
    | @dic a h =>
      cases r
      obtain ⟨_, hsys, vs, kv, o, es, ep, e1, e2, e3⟩ := (show ObjOk X.prog X.w H s.heap a (.dK []) from I.hok a _ h)
      have v0 : vs = [] := by
        cases kv
        rfl
      subst v0
      have z0 : es.toList = [] := by
        have z := e3.2.2.1
        cases q : es.toList with
        | nil => rfl
        | cons p r =>
          rw [q] at z
          cases z
      refine ⟨_, by rw [toD_o]; exact Reads.dict (kvs := []) e1 e2.1 e3.1 (by rw [z0]; exact .nil) (by rw [z0]; exact .nil), fun _ hm => ?_⟩
      have ha : sysModules = a := by simpa using hm
      rw [← ha] at hsys
      simp at hsys
end
/-- repr(x), x any thing -/
def rReprG (K : PySem.W.Frag) : List V → Hp → VK → Prop := fun xs H Q => ∃ (v : V) (g : G), xs = [v] ∧ In K H v g ∧ Fk g ∧ dp g ≤ 60 ∧ sz g ≤ 100000 ∧ Q (.str (PyData.shown (toD g))) H
section
variable {X : Cx}
theorem call_reprG (hg : X.A.guards = some []) (hu : X.A.units + 101 < cLine) : CallR X (.builtin "repr") (rReprG X.K) := by
  intro pins s σ H xs us Q I r h
  obtain ⟨v, g, rfl, hi, ⟨hf, hk⟩, hd, hz, q⟩ := h
  obtain ⟨S1, S2, S3⟩ := shg 60 g hd hf
  have hl : (PyData.shown (toD g)).length ≤ sizeLine := by
    rw [sizeLine_eq]
    omega
  have big : ∀ a : Addr, RelV v (.ref a) → us = [.ref a] → wpAny (model X.prog X.w) X.A (call (.builtin "repr") us) (EP X pins σ Q) X.xe s := fun a ra eu => by
    subst eu
    obtain ⟨as, rd, hm⟩ := reads_g I 60 g v (.ref a) hd hi ra
    refine repr_of_reads' rd S1 (fun z => ?_) hg (by omega) (fun _ _ e => e) (fun h' u tk hk => ⟨.str (PyData.shown (toD g)), H, I.kept hk, ⟨u, rfl⟩, q⟩) hl
    rcases hk with hk | hk
    · rw [nod_dict 60 g hd hf hk] at z
      cases z
    · exact hm hk
  cases hi with
  | s x =>
    cases r with
    | cons r1 rt =>
      cases rt
      obtain ⟨t, rfl⟩ := r1
      rw [toD_s] at q hl
      exact P.repr_of_str ⟨.str (reprText x), H, I.tok _, ⟨_, rfl⟩, q⟩ hl
  | non =>
    cases r with
    | cons r1 rt =>
      cases rt
      cases r1
      rw [toD_o] at q
      exact P.repr_of_none ⟨.str "None", H, I.tok _, ⟨_, rfl⟩, q⟩
  | bl b =>
    cases r with
    | cons r1 rt =>
      cases rt
      cases r1
      rw [toD_o] at q
      refine P.repr_of_bool ?_
      cases b
      · exact ⟨.str (PyData.shown (.bool false)), H, I.tok _, ⟨_, rfl⟩, q⟩
      · exact ⟨.str (PyData.shown (.bool true)), H, I.tok _, ⟨_, rfl⟩, q⟩
  | int i =>
    cases r with
    | cons r1 rt =>
      cases rt
      obtain ⟨t, rfl⟩ := r1
      rw [toD_o] at q S1
      exact P.repr_of_int (of_decide_eq_true (show PyData.showable (.int i) = true from S1)) ⟨.str (PyData.shown (.int i)), H, I.tok _, ⟨_, rfl⟩, q⟩
  | t h _ => exact big _ rfl (Vals.ref1 r)
  | lst h _ => exact big _ rfl (Vals.ref1 r)
  | dic h => exact big _ rfl (Vals.ref1 r)
end
end K1
set_option Elab.async false
set_option linter.all false
set_option maxRecDepth 100000
set_option maxHeartbeats 1000000
namespace K1
open PySem PySem.Spec PyProof.Rows L2
noncomputable instance instDecG : DecidableEq G := fun _ _ => Classical.propDecidable _
/-! ### things as data are equal just where they are the same -/
theorem eqvAll_toD {as : List G} : ∀ {bs : List G}, (∀ a ∈ as, ∀ b ∈ bs, PyData.eqv (toD a) (toD b) = decide (a = b)) → PyData.eqvAll (as.map toD) (bs.map toD) = decide (as = bs) := by
  induction as with
  | nil =>
    intro bs _
    cases bs <;> simp [PyData.eqvAll]
  | cons a as ih =>
    intro bs h
    cases bs with
    | nil => simp [PyData.eqvAll]
    | cons b bs =>
      rw [List.map_cons, List.map_cons, PyData.eqvAll, h a List.mem_cons_self b List.mem_cons_self, ih fun x hx y hy => h x (List.mem_cons_of_mem _ hx) y (List.mem_cons_of_mem _ hy)]
      by_cases e1 : a = b <;> by_cases e2 : as = bs <;> simp [e1, e2]
theorem eqv_toD (n : Nat) : ∀ a b : G, dp a ≤ n → shp a = true → shp b = true → PyData.eqv (toD a) (toD b) = decide (a = b) := by
  induction n with
  | zero =>
    intro a b h
    have := dp_pos a
    omega
  | succ n ih =>
    intro a b hd' ha hb
    rcases shp_cases ha with ⟨x, rfl⟩ | ⟨x, ps, rfl, hp⟩ <;> rcases shp_cases hb with ⟨y, rfl⟩ | ⟨y, qs, rfl, hq⟩
    · rw [toD, toD]
      show (x == y) = _
      by_cases e : x = y <;> simp [e]
    · simp [toD, PyData.eqv]
    · simp [toD, PyData.eqv]
    · rw [toD, toD]
      show PyData.eqvAll (List.map toD _) (List.map toD _) = _
      rw [eqvAll_toD fun p hp' q hq' => ?_]
      · by_cases e : (G.s x :: ps) = (G.s y :: qs) <;> simp [e]
      · rcases List.mem_cons.mp hp' with rfl | hp'
        · rcases List.mem_cons.mp hq' with rfl | hq'
          · rw [toD, toD]
            show (x == y) = _
            by_cases e : x = y <;> simp [e]
          · rcases shp_cases (hq q hq') with ⟨z, rfl⟩ | ⟨z, rs, rfl, _⟩
            · rw [toD, toD]
              show (x == z) = _
              by_cases e : x = z <;> simp [e]
            · simp [toD, PyData.eqv]
        · have hsq : shp q = true := by
            rcases List.mem_cons.mp hq' with rfl | hq'
            · rw [shp]
            · exact hq q hq'
          exact ih p q (dp_mem hd' (List.mem_cons_of_mem _ hp')) (hp p hp') hsq
/-- a == b, of things -/
theorem eq_go {K : PySem.W.Frag} {H : Hp} {v u : V} {a b : G} {Q : VK} (ha : In K H v a) (hb : In K H u b) (sa : shp a = true) (sb : shp b = true) (fa : fine a = true) (fb : fine b = true) (da : dp a ≤ 60) (db : dp b ≤ 60) (q : Q (.bl (decide (a = b))) H) : rEqD K v u H Q :=
  ⟨toD a, toD b, in_dp _ _ sa ha, in_dp _ _ sb hb, toD_shaped da sa fa, toD_shaped db sb fb, by rw [eqv_toD _ _ _ (Nat.le_refl _) sa sb]; exact q⟩
theorem ne_go {K : PySem.W.Frag} {H : Hp} {v u : V} {a b : G} {Q : VK} (ha : In K H v a) (hb : In K H u b) (sa : shp a = true) (sb : shp b = true) (fa : fine a = true) (fb : fine b = true) (da : dp a ≤ 60) (db : dp b ≤ 60) (q : Q (.bl (!decide (a = b))) H) : rNeD K v u H Q :=
  ⟨toD a, toD b, in_dp _ _ sa ha, in_dp _ _ sb hb, toD_shaped da sa fa, toD_shaped db sb fb, by rw [eqv_toD _ _ _ (Nat.le_refl _) sa sb]; exact q⟩
end K1
set_option Elab.async false
set_option linter.all false
set_option maxRecDepth 100000
set_option maxHeartbeats 1000000
namespace K1
open PySem PySem.Spec PyProof.Rows L2
open PySem.W (EachIs)
/-! ### things of tuples and texts alone -/
def tp : G → Bool
  | .s _ => true
  | .t ps => (ps.map tp).all id
  | _ => false
theorem tp_t (ps : List G) : tp (.t ps) = ps.all tp := by
  rw [tp, List.all_map]
  rfl
theorem tp_mk {ps : List G} (h : ∀ p ∈ ps, tp p = true) : tp (.t ps) = true := by
  rw [tp_t, List.all_eq_true]
  exact h
theorem tp_cases {g : G} (h : tp g = true) : (∃ x, g = .s x) ∨ ∃ ps, g = .t ps ∧ ∀ p ∈ ps, tp p = true := by
  cases g with
  | s x => exact .inl ⟨x, rfl⟩
  | t ps => exact .inr ⟨ps, rfl, by rw [tp_t, List.all_eq_true] at h; exact h⟩
  | l ps => simp [tp] at h
  | o d => simp [tp] at h
theorem shp_tp (n : Nat) : ∀ g, dp g ≤ n → shp g = true → tp g = true := by
  induction n with
  | zero =>
    intro g h
    have := dp_pos g
    omega
  | succ n ih =>
    intro g hd hs
    rcases shp_cases hs with ⟨x, rfl⟩ | ⟨x, ps, rfl, hp⟩
    · simp [tp]
    · refine tp_mk fun p hm => ?_
      rcases List.mem_cons.mp hm with rfl | hm'
      · simp [tp]
      · exact ih p (dp_mem hd hm) (hp p hm')
theorem in_tkTN {K : PySem.W.Frag} {H H' : Hp} (s : TupK H H') (n : Nat) : ∀ (g : G) (v : V), dp g ≤ n → tp g = true → In K H v g → In K H' v g := by
  induction n with
  | zero =>
    intro g v h
    have := dp_pos g
    omega
  | succ n ih =>
    intro g v hd hs hi
    rcases tp_cases hs with ⟨x, rfl⟩ | ⟨ps, rfl, hp⟩
    · rw [hi.str]
      exact .s x
    · obtain ⟨a, xs, rfl, h, r⟩ := hi.tup
      exact .t (s.sqt h) (inL_tk0 _ _ (fun g hg w hw => ih g w (dp_mem hd hg) (hp g hg) hw) r)
theorem in_tkT {K : PySem.W.Frag} {H H' : Hp} (s : TupK H H') (g : G) (v : V) (hs : tp g = true) (h : In K H v g) : In K H' v g := in_tkTN s (dp g) g v (Nat.le_refl _) hs h
theorem dp_all0 {K : PySem.W.Frag} {H : Hp} : ∀ (gs : List G) (vs : List V), (∀ g ∈ gs, ∀ v, In K H v g → Dp K H v (toD g)) → InL K H vs gs → DpAll K H vs (gs.map toD)
  | [], _, _, .nil => .nil
  | g :: gs, _, hs, .cons h t => .cons (hs g List.mem_cons_self _ h) (dp_all0 gs _ (fun e he => hs e (List.mem_cons_of_mem _ he)) t)
theorem in_dpTN {K : PySem.W.Frag} {H : Hp} (n : Nat) : ∀ (g : G) (v : V), dp g ≤ n → tp g = true → In K H v g → Dp K H v (toD g) := by
  induction n with
  | zero =>
    intro g v h
    have := dp_pos g
    omega
  | succ n ih =>
    intro g v hd hs hi
    rcases tp_cases hs with ⟨x, rfl⟩ | ⟨ps, rfl, hp⟩
    · rw [hi.str]
      rw [toD]
      exact .str x
    · obtain ⟨a, xs, rfl, h, r⟩ := hi.tup
      rw [toD]
      exact .tup h (dp_all0 _ _ (fun g hg w hw => ih g w (dp_mem hd hg) (hp g hg) hw) r)
theorem in_dpT {K : PySem.W.Frag} {H : Hp} (g : G) (v : V) (hs : tp g = true) (h : In K H v g) : Dp K H v (toD g) := in_dpTN (dp g) g v (Nat.le_refl _) hs h
theorem toD_okT (n : Nat) : ∀ g, dp g ≤ n → tp g = true → fine g = true → PyData.canLay0 (toD g) = true ∧ PyData.depth (toD g) ≤ n := by
  induction n with
  | zero =>
    intro g h
    have := dp_pos g
    omega
  | succ n ih =>
    intro g hd hs hf
    rcases tp_cases hs with ⟨x, rfl⟩ | ⟨gs, rfl, hp⟩
    · rw [toD]
      rw [fine, Bool.and_eq_true] at hf
      refine ⟨by simpa [PyData.canLay0] using hf.2, ?_⟩
      simp [PyData.depth]
    · rw [toD]
      have key : ∀ q ∈ gs, PyData.canLay0 (toD q) = true ∧ PyData.depth (toD q) ≤ n := fun q hq => ih q (dp_mem hd hq) (hp q hq) (fine_mem hf hq)
      have k2 : PyData.canLayAll0 (gs.map toD) = true ∧ PyData.depthAll (gs.map toD) ≤ n := by
        clear hd hs hf hp
        induction gs with
        | nil => simp [PyData.canLayAll0, PyData.depthAll]
        | cons g r ih2 =>
          obtain ⟨a, b⟩ := key g List.mem_cons_self
          obtain ⟨c, d⟩ := ih2 fun q hq => key q (List.mem_cons_of_mem _ hq)
          rw [List.map_cons]
          refine ⟨?_, ?_⟩
          · simp only [PyData.canLayAll0, Bool.and_eq_true]
            exact ⟨a, c⟩
          · simp only [PyData.depthAll]
            exact Nat.max_le.mpr ⟨b, d⟩
      refine ⟨by simpa [PyData.canLay0] using k2.1, ?_⟩
      simp only [PyData.depth]
      omega
theorem toD_shapedT {g : G} (hd : dp g ≤ 60) (hs : tp g = true) (hf : fine g = true) : SeqAt.shaped (toD g) = true := by
  obtain ⟨a, b⟩ := toD_okT 60 g hd hs hf
  unfold SeqAt.shaped
  rw [a, Bool.true_and, decide_eq_true_iff]
  omega
theorem eqv_toDT (n : Nat) : ∀ a b : G, dp a ≤ n → tp a = true → tp b = true → PyData.eqv (toD a) (toD b) = decide (a = b) := by
  induction n with
  | zero =>
    intro a b h
    have := dp_pos a
    omega
  | succ n ih =>
    intro a b hd' ha hb
    rcases tp_cases ha with ⟨x, rfl⟩ | ⟨ps, rfl, hp⟩ <;> rcases tp_cases hb with ⟨y, rfl⟩ | ⟨qs, rfl, hq⟩
    · rw [toD, toD]
      show (x == y) = _
      by_cases e : x = y <;> simp [e]
    · simp [toD, PyData.eqv]
    · simp [toD, PyData.eqv]
    · rw [toD, toD]
      show PyData.eqvAll (List.map toD _) (List.map toD _) = _
      rw [eqvAll_toD fun p hp' q hq' => ih p q (dp_mem hd' hp') (hp p hp') (hq q hq')]
      by_cases e : ps = qs <;> simp [e]
theorem eq_goT {K : PySem.W.Frag} {H : Hp} {v u : V} {a b : G} {Q : VK} (ha : In K H v a) (hb : In K H u b) (sa : tp a = true) (sb : tp b = true) (fa : fine a = true) (fb : fine b = true) (da : dp a ≤ 60) (db : dp b ≤ 60) (q : Q (.bl (decide (a = b))) H) : rEqD K v u H Q :=
  ⟨toD a, toD b, in_dpT _ _ sa ha, in_dpT _ _ sb hb, toD_shapedT da sa fa, toD_shapedT db sb fb, by rw [eqv_toDT _ _ _ (Nat.le_refl _) sa sb]; exact q⟩
theorem ne_goT {K : PySem.W.Frag} {H : Hp} {v u : V} {a b : G} {Q : VK} (ha : In K H v a) (hb : In K H u b) (sa : tp a = true) (sb : tp b = true) (fa : fine a = true) (fb : fine b = true) (da : dp a ≤ 60) (db : dp b ≤ 60) (q : Q (.bl (!decide (a = b))) H) : rNeD K v u H Q :=
  ⟨toD a, toD b, in_dpT _ _ sa ha, in_dpT _ _ sb hb, toD_shapedT da sa fa, toD_shapedT db sb fb, by rw [eqv_toDT _ _ _ (Nat.le_refl _) sa sb]; exact q⟩
end K1
set_option Elab.async false
set_option linter.all false
set_option maxRecDepth 100000
set_option maxHeartbeats 1000000
namespace L2
open PySem PySem.Spec PyProof.Rows
/-! ### x, *y = a tuple; l.count(x) of things; sorted(d) of a dict with any number of texts -/
theorem star_tuple {prog : Program} {w : World} {A : Around} {E : Value → Shared → Prop} {s : Shared} {t : Addr} {u : Value} {us : List Value} {Q : List Value → Shared → Prop} (hh : A.handled = none) (ht : IsTup s.heap t (u :: us).toArray) (hz : us.length + 1 ≤ 16384)
    (hQ : ∀ (h' : Heap) (tk : Nat), (∀ b o, s.heap.get? b = some o → h'.get? b = some o) → Q [u, .ref h'.objs.size] { s with heap := h'.push { cls := .type "list", data := .seq us.toArray }, toks := tk }) :
    wpAny (model prog w) A (unpackItems (.ref t) 2 (some 1)) Q E s := by
  have ne : t ≠ s.heap.objs.size := by obtain ⟨o, ho, _⟩ := ht; exact Nat.ne_of_lt (Heap.lt_size ho)
  have tl : t < s.heap.objs.size := by obtain ⟨o, ho, _⟩ := ht; exact Heap.lt_size ho
  unfold unpackItems
  refine wpAny_bind ?_
  unfold notIterableAtAll
  refine wpAny_bind (wpAny_specialOf (show s.TypeIs (.ref t) "tuple" from ht.typeIs) slot_tuple_iter.lookup (wpAny_pure ?_))
  simp only [Bool.false_eq_true, if_false]
  refine wpAny_bind (wpAny_holding (iter_tuple ht ?_))
  refine wpAny_bind (wpAny_holding (draw_tuple ne 1 0 _ _ ⟨_, Heap.get?_push_size _ rfl, rfl, rfl⟩ (ht.push _) (by simp) fun g it same => ?_))
  have tg : IsTup g t (u :: us).toArray := (ht.push _).extBut same.extBut ne
  obtain ⟨oi, hoi, hoi2⟩ := it
  have it' : IsTupIter g s.heap.objs.size t 1 := ⟨oi, hoi, hoi2⟩
  obtain ⟨ot, hot, hot2⟩ := tg
  have tg' : IsTup g t (u :: us).toArray := ⟨ot, hot, hot2⟩
  have e1 : List.take 1 (List.drop 0 (u :: us).toArray.toList) = [u] := by simp
  rw [e1, if_neg (show ¬ [u].length < 1 by simp)]
  refine wpAny_bind (wpAny_holding (PySem.W.kun_collect (s := { s with heap := g }) (T := "tuple_iterator") (items := (u :: us).toArray) (k := 1) (.inr (.inr (.inr rfl))) (Walks.tuple (A := A.in1) hh s.heap.objs.size t ne (u :: us).toArray)
    (fun j v st => st.1.typeIs) (by simp) ⟨it', tg'⟩ (Heap.lt_size hoi) (Heap.lt_size hot) (fun h' tk keep => ?_) (by rw [sizeLine_eq]; simp; omega)))
  have e2 : List.drop 1 (u :: us).toArray.toList = us := by simp
  rw [e2]
  show wpAny _ _ (if us.length < 2 - 1 - 1 then _ else _) _ _ _
  rw [if_neg (by simp)]
  have e3 : us.length - (2 - 1 - 1) = us.length := by simp
  show wpAny _ _ (newList (us.take (us.length - (2 - 1 - 1))) >>= fun z => pure ([u] ++ [z] ++ us.drop (us.length - (2 - 1 - 1)))) _ _ _
  rw [e3, List.take_length, List.drop_length]
  refine wpAny_bind (wpAny_newList ?_ (by rw [sizeLine_eq]; omega))
  refine wpAny_pure (hQ h' tk fun b o e => ?_)
  have nb : b ≠ s.heap.objs.size := Nat.ne_of_lt (Heap.lt_size e)
  exact keep b o nb (same.extBut b o nb (Heap.get?_push_of_some _ e))
/-- x, *y = a tuple -/
def gStar (K : PySem.W.Frag) (g1 g2 : TG) : TG := fun v σ H Q => ∃ a x xs, v = .ref a ∧ SqT K H a (x :: xs) ∧ xs.length ≤ 10000 ∧ ∀ D, H D = none → g1 x σ (upd H D (.lst xs)) fun σ' H' => g2 (.ref D) σ' H' Q
section
variable {X : Cx}
theorem pg_star {e1 e2 : Expr} {p pos : Pos} {k : Nat} {g1 g2 : TG} (hc : X.calm = true) (h1 : PG X e1 g1) (h2 : PG X e2 g2)
    (ha : assignEach [e1, .Starred e2 p] X.env = [(false, assign e1 X.env), (true, assign e2 X.env)] := by rfl) : PG X (.Tuple [e1, .Starred e2 p] k pos) (gStar X.K g1 g2) := by
  refine ⟨fun pins s σ H v u Q I r hw => ?_⟩
  obtain ⟨a, x, xs, rfl, hq, hz, q⟩ := hw
  cases r
  obtain ⟨its, rv, ht, _⟩ := I.tuple hq
  cases rv with
  | @cons _ u0 _ us r0 rt =>
  rw [assign_Tuple, ha]
  refine wpAny_bind (wpAny_standAt ?_)
  unfold unpack
  have ul : us.length = xs.length := (Vals.length rt).symm
  refine wpAny_bind (wpAny_holding (star_tuple (I.ok.hd hc) ht (by omega) fun h' tk keep => ?_))
  have I1 : Inv X pins σ H { s with heap := h', toks := tk } := I.kept keep
  have I2 : Inv X pins σ (upd H h'.objs.size (.lst xs)) { s with heap := h'.push { cls := .type "list", data := .seq us.toArray }, toks := tk } :=
    I1.laid (t' := tk) (fun b o e => Heap.get?_push_of_some _ e) (Nat.le_refl _) (show ObjOk X.prog X.w _ _ _ (.lst xs) from ⟨by rw [sizeLine_eq]; omega, us, 0, rt, Heap.get?_push_size _ rfl⟩)
  show wpAny _ _ (assignInOrder [assign e1 X.env, assign e2 X.env] [u0, .ref h'.objs.size]) _ _ _
  refine assignInOrder_cons (thn (h1.run pins _ σ _ x u0 _ I2 r0 (q _ (I1.hok.fresh (Nat.le_refl _)))) fun _ s1 ⟨σ1, H3, I3, q3⟩ => ?_)
  refine assignInOrder_cons (thn (h2.run pins s1 σ1 H3 (.ref h'.objs.size) _ _ I3 rfl q3) fun _ s2 ⟨σ2, H4, I4, q4⟩ => ?_)
  exact assignInOrder_nil ⟨σ2, H4, I4, q4⟩
/-- l.count(x) -/
def rCntD (K : PySem.W.Frag) : V → List V → Hp → VK → Prop := fun x xs H Q => ∃ (p : Addr) (ys : List V) (y : V) (ds : List PyData) (d : PyData), x = .ref p ∧ xs = [y] ∧ SqL K H p ys ∧ DpAll K H ys ds ∧ Dp K H y d ∧ PyData.plainAll ds = true ∧ d.plain = true ∧ d.depth ≤ 62 ∧ Q (.int ((ds.countP fun z => PyData.eqv z d : Nat) : Int)) H
theorem mt_countD (hu : X.A.units + 64 < cLine) : MtR X "list.count" (rCntD X.K) := by
  intro pins s σ H x xs v us Q I r rs h
  obtain ⟨p, ys, y, ds, d, rfl, rfl, hs, hd, hy, h1, h2, h3, q⟩ := h
  cases r
  obtain ⟨u, rfl, ru⟩ := rs.one
  obtain ⟨its, rv, pl, _⟩ := I.list hs
  obtain ⟨as, ra⟩ := Dp.readsAll I ds ys its hd rv
  obtain ⟨bs, rb⟩ := Dp.reads I d y u hy ru
  refine SeqAt.count_list_data pl.isList (by simpa using ra) rb h1 h2 (by
    have := Nat.min_le_right (PyData.depthAll ds) d.depth
    omega) ?_
  exact ⟨.int _, H, I.tok _, ⟨s.toks, rfl⟩, q⟩
/-- sorted(d) -/
theorem call_sortedDA (hcalm : X.calm = true) : CallR X (.builtin "sorted") (fun xs H Q => ∃ (a : Addr) (kvs : List (Key × V)) (ks : List Str), xs = [.ref a] ∧ Rd H a (.dK kvs) ∧ kvs.map (·.1) = ks.map Sum.inr ∧
    ∀ ys p, ys.Perm ks → SetS.Rises ys → H p = none → Q (.ref p) (upd H p (.lst (ys.map V.str)))) := by
  intro pins s σ H xs us Q I r q
  obtain ⟨a, kvs, ks, rfl, hd, hks, q⟩ := q
  obtain ⟨u, rfl, rx⟩ := vals1 r
  cases rx
  obtain ⟨z, lo, vs, rel, dd⟩ := dk_rd I.hok hd
  obtain ⟨ep, hat⟩ := dd.dictAt
  have hkeys : vs.map (·.1) = ks.map Sum.inr := rel.keys.symm.trans hks
  have hl : vs.length = ks.length := by
    have e := congrArg List.length hkeys
    rwa [List.length_map, List.length_map] at e
  have hz : vs.length ≤ sizeLine := by rw [← rel.length]; exact z
  refine Calls.call_function_entry kind_sorted plain_sorted entry_sorted (args_sorted1 _) ?_
  unfold Builtin.«sorted»
  refine wpAny_bind (m := checkCount "sorted" 1 1 _) (wpAny_pure ?_)
  refine wpAny_bind (PySem.W.kdu_collect (A := X.A.in1) (PySem.W.kdl_dict (knd := mixKind X.prog X.w) (kvs := vs) (ep := ep) lo) (I.ok.hd hcalm) hat hz fun h' tk acc keep hacc => ?_)
  have hal : acc.toList.length = ks.length := by rw [Array.length_toList, hacc.1, hl]
  have hS : StrsAre acc.toList ks := strs_at hal fun j v e => by
    obtain ⟨k, x, e1, e2⟩ := hacc.2 j v (by rw [← Array.getElem?_toList]; exact e)
    have e3 : (vs.map (·.1))[j]? = some k := by rw [List.getElem?_map, e1]; rfl
    rw [hkeys, List.getElem?_map] at e3
    obtain ⟨y, e4, e5⟩ := Option.map_eq_some_iff.mp e3
    subst e5
    obtain ⟨t, ev⟩ := Value.isStrOf_shape (x := y) (v := v) e2
    exact ⟨y, t, e4, ev⟩
  have I1 : Inv X pins σ H { s with heap := h', toks := tk } := I.kept keep
  have hl2 : acc.toList.length ≤ sizeLine := by rw [hal, ← hl]; exact hz
  refine wpAny_bind (wpAny_newList ?_ hl2)
  have hoL : (h'.push (seqObj "list" acc.toList.toArray 0)).get? h'.objs.size = some (seqObj "list" acc.toList.toArray 0) := Heap.get?_push_size _ rfl
  show wpAny _ _ _ _ _ { s with heap := h'.push (seqObj "list" acc.toList.toArray 0), toks := tk }
  refine wpAny_bind (wpAny_holding (wpAny_call_entry slot_list_sort ⟨_, hoL, rfl⟩ entry_list_sort (SrtO.list_sort_ord SetS.swo hoL hl2 (fun h2 => SetS.sortable hS h2) fun out k1 k2 => ⟨.none, rfl, ?_⟩) (args_list_sort _)))
  obtain ⟨c, hc⟩ := sortedHeap_at (vs := acc.toList) (out := out.toArray) hoL
  have h3 : ∀ v ∈ out, ∃ x t, v = Value.str x t := fun v hv => SetS.strs_mem hS v (k2.perm.mem_iff.mp hv)
  have ho := SetS.strs_of h3
  have hp : (out.map SetS.tv).Perm ks := by
    have := k2.perm.map SetS.tv
    rwa [SetS.tv_of hS] at this
  refine wpAny_pure ⟨_, rfl, .ref h'.objs.size, upd H h'.objs.size (.lst ((out.map SetS.tv).map V.str)), I1.laid (t' := tk) (fun b u e => ?_) (Nat.le_refl _)
    (show ObjOk X.prog X.w _ _ _ (.lst ((out.map SetS.tv).map V.str)) from ⟨by rw [List.length_map, List.length_map, ← List.length_map (f := SetS.tv), hp.length_eq, ← hl]; exact hz, out, c, vals_ofS ho, hc⟩), rfl, q _ _ hp (SetS.rises_of k1) (I1.hok.fresh (Nat.le_refl _))⟩
  have hb : b < h'.objs.size := Heap.lt_size e
  show (sortedHeap (h'.push (seqObj "list" acc.toList.toArray 0)) h'.objs.size acc.toList out.toArray).get? b = some u
  rw [sortedHeap_old (Nat.ne_of_lt hb) (by rw [size_push']; exact Nat.lt_succ_of_lt hb)]
  exact Heap.get?_push_of_some _ e
end
end L2
set_option Elab.async false
set_option linter.all false
set_option maxRecDepth 100000
set_option maxHeartbeats 2000000
namespace K1
open PySem PySem.Spec PyProof.Rows L2
open PySem.W (EachIs)
section
variable {X : Cx} {CX : CXT} {k n : Nat} {f : Addr} {fd : FuncData} {ps ks : List Str} {sp : Sp} {E : XK} {x : Str} {p pos : Pos} {kws : List Keyword} {tk : TA} {g : List Value → List Value → List Value} {gV : List V → List V → List V}
theorem passX : Passes (L2.CX X.prog X.w) X E0 := fun _ _ _ _ _ _ _ h => by
  obtain ⟨_, _, _, _, _, _, _, _, _, _, _, _, z⟩ := h
  exact z.elim
/-- f(k = v, ..): by name alone -/
theorem pe_callN0 (F : FnOk X.prog X.w X.K X.mg X.base CX k f fd ps sp) (hr : Room k X.A) (hg : Gl X x) (hm : X.mg x = some (.ref f)) (hk : PySem.W.keepIn X.K (.ref f) = true) (hb : KBn X.K fd ps 0 ks g gV) (hx : Passes CX X E) (hkw : PK X kws tk)
    (hall : (backToKw pos (keywordEach kws X.env)).all (·.1.isSome) = true := by rfl) (hks : (backToKw pos (keywordEach kws X.env)).filterMap (·.1) = ks := by rfl) (hdb : (x == ("__debug__" : Str)) = false := by decide)
    (hpl : ((backTo pos (starEach [] X.env)).any (·.1) || (backToKw pos (keywordEach kws X.env)).any (·.1.isNone)) = false := by rfl) :
    PE X (.Call (.Name x p) [] kws pos) (tCallN 0 ks.length sp gV E tNil tk) := by
  refine ⟨fun pins s σ H Q I h => ?_⟩
  refine wpAny_Call_Name_kw (ld_glob I hg hm ?_ hdb)
  refine PySem.W.callWith_KW0 (h₀ := X.base) I.ok.mod.kin hk hall ?_ hpl
  refine thn (hkw.run pos pins s σ H _ I h) fun ws s2 ⟨zs, H2, I2, rz, l1, l2, q2⟩ => ⟨I2.kIn, ?_⟩
  rw [hks]
  exact run_fnN (us := []) (vs := []) F hr hb hx I2 .nil rz rfl l2 q2
end
theorem vals_rev {zs : List V} {ws : List Value} (r : Vals zs ws) : Vals zs.reverse ws.reverse := by
  induction r with
  | nil => exact .nil
  | cons h t ih =>
    rw [List.reverse_cons, List.reverse_cons]
    exact ih.append (.cons h .nil)
theorem same_made {H H' : Hp} {x dx C : Addr} (hx : H x = none) (hdx : H dx = none) (h : ∀ b o, (upd (upd H dx (.own x)) x (.ins C dx [])) b = some o → b ≠ x → H' b = some o) : Same H H' := fun b o e => by
  have n1 := ne_of_none e hx
  have n2 := ne_of_none e hdx
  exact h b o (by rw [upd_ne n1, upd_ne n2]; exact e) n1
theorem same_made0 {H : Hp} {x dx C : Addr} (hx : H x = none) (hdx : H dx = none) : Same H (upd (upd H dx (.own x)) x (.ins C dx [])) := fun b o e => by
  rw [upd_ne (ne_of_none e hx), upd_ne (ne_of_none e hdx)]
  exact e
theorem row_sign {l : Ln} (h1 : nameB l.1 = true) (h2 : l.2 ∈ sorts7) : signD (rowD l) = true := by
  obtain ⟨n, k, m⟩ := l
  simp only at h1 h2
  have key : ∀ s ∈ sorts7, (if PyData.eqv (.str s.1) (.str "plain") then decide (0 ≤ (s.2 : Int) ∧ (s.2 : Int) ≤ 4) else kindsD (.str s.1) && decide ((s.2 : Int) = 2)) = true := by decide +kernel
  show (nameD (.str n) && if PyData.eqv (.str k) (.str "plain") then decide (0 ≤ (m : Int) ∧ (m : Int) ≤ 4) else kindsD (.str k) && decide ((m : Int) = 2)) = true
  rw [key (k, m) h2, show nameD (.str n) = nameB n from rfl, h1]
  rfl
theorem rows_go : ∀ (L : List Ln) (seen : List Str), (∀ l ∈ L, signD (rowD l) = true) → (L.map (·.1)).Nodup → (∀ x ∈ L.map (·.1), x ∉ seen) → goRows (L.map rowD) seen = true
  | [], _, _, _, _ => rfl
  | l :: L, seen, h1, h2, h3 => by
    have h2' := List.nodup_cons.mp (by rw [List.map_cons] at h2; exact h2)
    show (signD (rowD l) && (!decide (nameOf (rowD l) ∈ seen) && goRows (L.map rowD) (seen ++ [nameOf (rowD l)]))) = true
    have e : nameOf (rowD l) = l.1 := rfl
    rw [e, h1 l List.mem_cons_self, decide_eq_false (h3 l.1 (by rw [List.map_cons]; exact List.mem_cons_self)), rows_go L (seen ++ [l.1]) (fun m hm => h1 m (List.mem_cons_of_mem _ hm)) h2'.2 (fun x hx hs => ?_)]
    · rfl
    · rcases List.mem_append.mp hs with hs | hs
      · exact h3 x (by rw [List.map_cons]; exact List.mem_cons_of_mem _ hx) hs
      · rw [List.mem_singleton.mp hs] at hx
        exact h2'.1 hx
theorem Sn.signs {L : List Ln} (S : Sn L) : signsD (.list (L.map rowD)) = true := by
  have hl : 1 ≤ L.length := List.length_pos_iff.mpr S.ne
  have hl2 := S.ok.len
  unfold signsD
  show (true && (decide (1 ≤ (L.map rowD).length ∧ (L.map rowD).length ≤ 24) && goRows (L.map rowD) [])) = true
  rw [List.length_map, decide_eq_true ⟨hl, hl2⟩, rows_go L [] (fun l h => row_sign (S.ok.nm l h) (S.rw l h)) S.nd (fun _ _ z => absurd z (by simp))]
  rfl
theorem fineAll_of {ds : List PyData} (h : ∀ e ∈ ds, fineD e = true) : fineAll ds = true := by
  induction ds with
  | nil => rfl
  | cons a r ih =>
    show (fineD a && fineAll r) = true
    rw [h a List.mem_cons_self, ih fun e he => h e (List.mem_cons_of_mem _ he)]
    rfl
theorem layAll_of {ds : List PyData} (h : ∀ e ∈ ds, PyData.canLay0 e = true) : PyData.canLayAll0 ds = true := by
  induction ds with
  | nil => rfl
  | cons a r ih =>
    simp only [PyData.canLayAll0, Bool.and_eq_true]
    exact ⟨h a List.mem_cons_self, ih fun e he => h e (List.mem_cons_of_mem _ he)⟩
theorem depAll_of {n : Nat} {ds : List PyData} (h : ∀ e ∈ ds, PyData.depth e ≤ n) : PyData.depthAll ds ≤ n := by
  induction ds with
  | nil => simp [PyData.depthAll]
  | cons a r ih =>
    simp only [PyData.depthAll]
    exact Nat.max_le.mpr ⟨h a List.mem_cons_self, ih fun e he => h e (List.mem_cons_of_mem _ he)⟩
theorem Sn.data {L : List Ln} (S : Sn L) : okD (.list (L.map rowD)) = true := by
  have hl2 := S.ok.len
  have key : ∀ e ∈ L.map rowD, fineD e = true ∧ PyData.canLay0 e = true ∧ PyData.depth e ≤ 20 := fun e he => by
    obtain ⟨l, hl, rfl⟩ := List.mem_map.mp he
    obtain ⟨_, _, k1, k2⟩ := kinds_ok _ (S.ok.kd l hl)
    obtain ⟨f1, f2⟩ := name_fine (S.ok.nm l hl)
    obtain ⟨n, k, m⟩ := l
    refine ⟨?_, ?_, ?_⟩
    · simp only [rowD, fineD, fineAll, List.length_cons, List.length_nil, Bool.and_eq_true, decide_eq_true_iff]
      simp only at f1 k1
      refine ⟨by omega, by omega, by omega, trivial, trivial⟩
    · simp only [rowD, PyData.canLay0, PyData.canLayAll0, Bool.and_eq_true]
      exact ⟨f2, k2, trivial, trivial⟩
    · simp [rowD, PyData.depth, PyData.depthAll]
  refine ok_of ?_ ?_ ?_
  · simp only [PyData.canLay0]
    exact layAll_of fun e he => (key e he).2.1
  · show (decide ((L.map rowD).length ≤ 1000) && fineAll (L.map rowD)) = true
    rw [List.length_map, decide_eq_true (by omega : L.length ≤ 1000), fineAll_of fun e he => (key e he).1]
    rfl
  · have := depAll_of (n := 20) fun e he => (key e he).2.2
    simp only [PyData.depth]
    omega
end K1
set_option Elab.async false
set_option linter.all false
set_option maxRecDepth 100000
set_option maxHeartbeats 2000000
namespace K1
open PySem PySem.Spec PyProof.Rows L2
open PySem.W (EachIs)
abbrev sLaid : Stmt := topS 35
def gapsOf : G → List Str
  | .s x => [x]
  | .t (_ :: ps) => (ps.map gapsOf).flatten
  | _ => []
def partsG : G → List G
  | .t (_ :: ps) => ps
  | _ => []
theorem gapsOf_s (x : Str) : gapsOf (.s x) = [x] := by simp only [gapsOf]
theorem gapsOf_t (h : G) (ps : List G) : gapsOf (.t (h :: ps)) = (ps.map gapsOf).flatten := by simp only [gapsOf]
theorem gflat_len (ps : List G) (h : ∀ p ∈ ps, (gapsOf p).length ≤ sz p) : (ps.map gapsOf).flatten.length ≤ (ps.map sz).sum := by
  induction ps with
  | nil => simp
  | cons p r ih =>
    rw [List.map_cons, List.flatten_cons, List.length_append, List.map_cons, List.sum_cons]
    have h1 := h p List.mem_cons_self
    have h2 := ih fun q hq => h q (List.mem_cons_of_mem _ hq)
    omega
theorem gaps_len (n : Nat) : ∀ g, dp g ≤ n → (gapsOf g).length ≤ sz g := by
  induction n with
  | zero =>
    intro g h
    have := dp_pos g
    omega
  | succ n ih =>
    intro g hd
    cases g with
    | s x => rw [gapsOf_s]; simp [sz]
    | l ps => simp [gapsOf]
    | o d => simp [gapsOf]
    | t ps =>
      cases ps with
      | nil => simp [gapsOf]
      | cons h ps =>
        rw [gapsOf_t, sz_t, List.map_cons, List.sum_cons]
        have := gflat_len ps fun p hp => ih p (dp_mem hd (List.mem_cons_of_mem _ hp))
        omega
/-- what a def asks of a draft -/
def spAsk (K : PySem.W.Frag) (C CT : Addr) (A : Hp → G → V → Hp → Prop) : Sp := fun vs H Q E => ∃ (p : Addr) (L : List Ln) (v : V) (g : G), vs = [.ref p, v] ∧ SgL K C H p L ∧ LOk L ∧ In K H v g ∧ fine g = true ∧ sz g ≤ 2000 ∧
  ∀ H', Same H H' → (lay0 L g = true → ∀ v', A H (laid L g) v' H' → Q v' H') ∧ (lay0 L g = false → E (.ref CT) none H')
def aLaid (K : PySem.W.Frag) : Hp → G → V → Hp → Prop := fun _ g v H => In K H v g
def aPts : Hp → G → V → Hp → Prop := fun _ g v _ => v = .int (points g)
def aDeep : Hp → G → V → Hp → Prop := fun _ g v _ => v = .int (deep g)
def aGaps : Hp → G → V → Hp → Prop := fun H g v H' => ∃ (a : Addr) (xs : List Str), v = .ref a ∧ H a = none ∧ H' a = some (.lst (xs.map V.str)) ∧ xs.Nodup ∧ SetS.Rises xs ∧ ∀ x, x ∈ xs ↔ x ∈ gapsOf g
def aParts (K : PySem.W.Frag) : Hp → G → V → Hp → Prop := fun H g v H' => ∃ (a : Addr) (xs : List V), v = .ref a ∧ H a = none ∧ H' a = some (.lst xs) ∧ InL K H' xs (partsG g)
def spGapsOf (K : PySem.W.Frag) (n : Nat) : Sp := fun vs H Q _ => ∃ (v : V) (g : G), vs = [v] ∧ In K H v g ∧ shp g = true ∧ dp g ≤ n ∧ sz g ≤ 2000 ∧ ∀ a H', Same H H' → H a = none → H' a = some (.lst ((gapsOf g).map V.str)) → Q (.ref a) H'
def spPartsOf (K : PySem.W.Frag) : Sp := fun vs H Q _ => ∃ (v : V) (g : G), vs = [v] ∧ In K H v g ∧ shp g = true ∧ sz g ≤ 2000 ∧ ∀ a H' xs, Same H H' → SqT K H' a xs → InL K H' xs (partsG g) → Q (.ref a) H'
section
variable {P : Program} {w : World} {K : PySem.W.Frag} {mg : Str → Option Value} {base : Heap}
theorem scLaid : FnScope ["signs", "draft", "term"] ["signs", "draft"] (defScope sLaid) := ⟨rfl, rfl, rfl, by decide +kernel, rfl, by decide +kernel, by decide +kernel⟩
theorem ok_laid {f C CT : Addr} {fd : FuncData} {m : Nat} (F : Fun K "laid" "laid" sLaid f fd) (DL : Df P w K mg base C8.CX0 "laid_or_none" m ["signs", "thing"] (spOrNone K C)) (N : XC K mg "NoTerm" CT) : FnOk P w K mg base (L2.CX P w) (m + 1) f fd ["signs", "draft"] (spAsk K C CT (aLaid K)) := by
  refine F.okX scLaid (fun vs H Q E h => ?_) (fun cdv A outer s H vs Q E hr h => ?_)
  · obtain ⟨p, L, v, g, rfl, _⟩ := h
    rfl
  · obtain ⟨p, L, v, g, rfl, S, ok, hin, hf, hz, k⟩ := h
    refine ⟨_, pss_cons (ps_set (i := 2) scLaid.nd rfl (Or.inl rfl) (pe_df DL hr pass0 (pa_cons (pv 0) (pa_cons (pv 1) pa_nil)) (Nat.le_refl _)))
      (pss_cons (ps_if (pt_cmp (pc_isN (pv 2))) (pss_one (ps_raise rfl (takes_of rfl rfl rfl rfl) (pmk_own PySem.F.excBase_ValueError N.exc N.g N.kp (raises_own N.sub N.ty) rfl))) pss_nil)
      (pss_one (ps_ret (pv 2)))), ?_⟩
    refine ⟨_, rfl, _, rfl, p, L, v, g, rfl, S, ok, hin, hf, hz, fun H1 s1 => ⟨fun e => ?_, fun e v' hv' => ?_⟩⟩
    · exact ⟨_, rfl, true, rfl, iteT ((k H1 s1).2 e)⟩
    · obtain ⟨hL, hs, hd⟩ := lay0_less e hf
      have hn := not_non hv' hL.shp
      exact ⟨_, rfl, false, (by rw [hn]), iteF ⟨_, rfl, (k H1 s1).1 e v' hv'⟩⟩
end
end K1
set_option Elab.async false
set_option linter.all false
set_option maxRecDepth 100000
set_option maxHeartbeats 2000000
namespace K1
open PySem PySem.Spec PyProof.Rows L2
open PySem.W (EachIs)
abbrev sortsA : List (Str × Nat) := [("plain", 0), ("plain", 1), ("plain", 2), ("plain", 3), ("plain", 4), ("pair", 2), ("row", 2), ("heap", 2)]
theorem sortsA_ok : ∀ s ∈ sortsA, s.1 ∈ kinds4 ∧ (s.1 = "pair" → s.2 = 2) ∧ s.2 ≤ 4 := by decide +kernel
theorem sorts7_A : ∀ s ∈ sorts7, s ∈ sortsA := by decide +kernel
/-- signs as they are drawn -/
structure Sg (L : List Ln) : Prop where
  ok : LOk L
  nd : (L.map (·.1)).Nodup
  ne : L ≠ []
  rw : ∀ l ∈ L, l.2 ∈ sortsA
  no : ∀ l ∈ L, l.1 ≠ nosuch
theorem sg_of {L : List Ln} (h1' : ∀ l ∈ L, nmB l.1 = true) (h2 : (L.map (·.1)).Nodup) (h3 : L ≠ []) (h4 : L.length ≤ 24) (h5 : ∀ l ∈ L, l.2 ∈ sortsA) : Sg L :=
  have h1 : ∀ l ∈ L, nameB l.1 = true := fun l h => nm_name (h1' l h)
  ⟨⟨fun l h => (sortsA_ok _ (h5 l h)).1, fun l h => (sortsA_ok _ (h5 l h)).2.1, h1, h4, fun l h => (sortsA_ok _ (h5 l h)).2.2⟩, h2, h3, h5, fun l h => nm_no (h1' l h)⟩
theorem row_signA {l : Ln} (h1 : nameB l.1 = true) (h2 : l.2 ∈ sortsA) : signD (rowD l) = true := by
  obtain ⟨n, k, m⟩ := l
  simp only at h1 h2
  have key : ∀ s ∈ sortsA, (if PyData.eqv (.str s.1) (.str "plain") then decide (0 ≤ (s.2 : Int) ∧ (s.2 : Int) ≤ 4) else kindsD (.str s.1) && decide ((s.2 : Int) = 2)) = true := by decide +kernel
  show (nameD (.str n) && if PyData.eqv (.str k) (.str "plain") then decide (0 ≤ (m : Int) ∧ (m : Int) ≤ 4) else kindsD (.str k) && decide ((m : Int) = 2)) = true
  rw [key (k, m) h2, show nameD (.str n) = nameB n from rfl, h1]
  rfl
theorem Sg.signs {L : List Ln} (S : Sg L) : signsD (.list (L.map rowD)) = true := by
  have hl : 1 ≤ L.length := List.length_pos_iff.mpr S.ne
  have hl2 := S.ok.len
  unfold signsD
  show (true && (decide (1 ≤ (L.map rowD).length ∧ (L.map rowD).length ≤ 24) && goRows (L.map rowD) [])) = true
  rw [List.length_map, decide_eq_true ⟨hl, hl2⟩, rows_go L [] (fun l h => row_signA (S.ok.nm l h) (S.rw l h)) S.nd (fun _ _ z => absurd z (by simp))]
  rfl
theorem dpr_set {K : PySem.W.Frag} {H : Hp} {v : V} {l : Ln} (hv : Dp K H v (rowD l)) : ∀ {xs : List V} {L : List Ln} (i : Nat), DpAll K H xs (L.map rowD) → DpAll K H (xs.set i v) ((L.set i l).map rowD)
  | [], [], _, .nil => .nil
  | _ :: _, _ :: _, 0, .cons _ t => .cons hv t
  | _ :: _, _ :: _, i + 1, .cons h t => .cons h (dpr_set hv i t)
abbrev sSgR : Stmt := topS 50
abbrev nSgR : List Str := ["_law_state", "_law_names", "_law_rows", "_law_k", "_law_name", "_law_kind", "_law_at"]
abbrev kinds5 : List Str := ["plain", "plain", "pair", "row", "heap"]
def spSgR (K : PySem.W.Frag) (TT : List (Addr × Str)) : Sp := fun vs H Q _ => ∃ (d g c : Addr) (t : Nat), vs = [.ref d] ∧ Wd TT d g c t H ∧ t + 120 < 2 ^ 30 ∧
  ∀ (ll : Addr) (L : List Ln) (xs : List V) (H' : Hp), hid [d, g] H' ll = some (.lst xs) → DpAll K (hid [d, g] H') xs (L.map rowD) → Sg L → Wd TT d g c (t + 120) H' → Kn d g H H' → Q (.ref ll) H'
section
variable {P : Program} {w : World} {K : PySem.W.Frag} {mg : Str → Option Value} {base : Heap}
theorem scSgR : FnScope nSgR ["_law_state"] (defScope sSgR) := ⟨rfl, rfl, rfl, by decide +kernel, rfl, by decide +kernel, by decide +kernel⟩
/-- the loop's state -/
structure Rw (K : PySem.W.Frag) (TT : List (Addr × Str)) (d g c D lw : Addr) (t : Nat) (ws : List Str) (H : Hp) (xs : List V) (L : List Ln) (i : Nat) (H' : Hp) : Prop where
  W : Wd TT d g c (t + 2 * i) H'
  n : Kn d g H H'
  eD : H' D = some (.lst xs)
  ew : H' lw = some (.lst (ws.map V.str))
  dp : DpAll K (hid [d, g] H') xs (L.map rowD)
  nm : L.map (·.1) = ws.take i
  rw : ∀ l ∈ L, l.2 ∈ sortsA
  len : xs.length = i
theorem Rw.kp {TT : List (Addr × Str)} {d g c D lw : Addr} {t : Nat} {ws : List Str} {H : Hp} {xs : List V} {L : List Ln} {i : Nat} {H' H2 : Hp} (r : Rw K TT d g c D lw t ws H xs L i H') {u : Nat} (G : Gen d g c (t + 2 * i + u) H2) (k : Kp d g H' H2) (Dd : D ≠ d) (Dg : D ≠ g) (wd : lw ≠ d) (wg : lw ≠ g) :
    Wd TT d g c (t + 2 * i + u) H2 ∧ Kn d g H H2 ∧ H2 D = some (.lst xs) ∧ H2 lw = some (.lst (ws.map V.str)) ∧ DpAll K (hid [d, g] H2) xs (L.map rowD) :=
  ⟨r.W.kp G k, r.n.trans (.kp k), k _ _ Dd Dg r.eD, k _ _ wd wg r.ew, dpr_ext (Kn.kp k).hid _ r.dp⟩
theorem ok_sgR {f : Addr} {fd : FuncData} {TT : List (Addr × Str)} (F : Fun K "_law_sign_rows" "_law_sign_rows" sSgR f fd) (DT : Df P w K mg base C8.CX0 "_law_take" 2 ["_law_state", "_law_size"] spTake) (DW : Df P w K mg base C8.CX0 "_law_words" 3 ["_law_state", "_law_size"] spWords) (T : Ct mg) (gE : mg "enumerate" = none) :
    FnOk P w K mg base C8.CX0 4 f fd ["_law_state"] (spSgR K TT) := by
  refine F.ok scSgR (fun vs H Q E h => ?_) (fun cdv A outer s H vs Q E hr h => ?_)
  · obtain ⟨d, g, c, t, rfl, _⟩ := h
    rfl
  · obtain ⟨d, g, c, t, rfl, W, ht, k⟩ := h
    refine ⟨_, pss_cons (ps_par (i := 1) (j := 2) (by rfl) scSgR.nd rfl rfl (by decide) rfl rfl (pa_cons (pe_df DW hr pass0 (pa_cons (pv 0) (pa_cons (pe_op op_add pe_int (pe_df DT hr pass0 (pa_cons (pv 0) (pa_cons pe_int pa_nil)))) pa_nil))) (pa_cons (pe_lst pa_nil) pa_nil)) (by rfl))
      (pss_cons (ps_for PassesOwn.never rfl (pi_enum (by rfl) gE (pa_cons (pv 1) pa_nil)) (pg_tup rfl (pgs_cons (pg_name (i := 3) scSgR.nd rfl (Or.inl rfl)) (pgs_cons (pg_name (i := 4) scSgR.nd rfl (Or.inl rfl)) pgs_nil)))
        (pss_cons (ps_set (i := 5) scSgR.nd rfl (Or.inl rfl) (pe_ix ix_list (pe_lst (pa_cons pe_str (pa_cons pe_str (pa_cons pe_str (pa_cons pe_str (pa_cons pe_str pa_nil)))))) (pe_df DT hr pass0 (pa_cons (pv 0) (pa_cons pe_int pa_nil))) (fun _ _ => rfl)))
        (pss_one (ps_expr (pe_bm PySem.F.plainAttrs_list PySem.F.slot_list_append PySem.F.type_list_append mt_append (pv 2) (pa_cons (pe_tup (pa_cons (pv 4) (pa_cons (pv 5) (pa_cons (pe_ifExp (pt_cmpR op_eq (pv 5) pe_str (nomark _)) (pe_df DT hr pass0 (pa_cons (pv 0) (pa_cons pe_int pa_nil))) pe_int) pa_nil)))) pa_nil))))))
      (pss_cons (ps_set (i := 6) scSgR.nd rfl (Or.inl rfl) (pe_df DT hr pass0 (pa_cons (pv 0) (pa_cons (pe_callB call_len_seq (by rfl) T.len PySem.boot_len (pa_cons (pv 2) pa_nil)) pa_nil))))
      (pss_cons (ps_asg (pe_tup (pa_cons (pe_ix ix_tup (pe_ix ix_list (pv 2) (pv 6) (fun _ _ => rfl)) pe_int (fun _ _ => rfl)) (pa_cons pe_str (pa_cons pe_int pa_nil)))) (pg_sub (pv 2) (pv 6) set_list))
      (pss_one (ps_ret (pv 2)))))), ?_⟩
    refine ⟨_, rfl, _, rfl, d, g, c, t, 7, rfl, W.G, by omega, by decide, by decide, fun v1 H1 a0 a1 G1 k1 => ⟨_, _, rfl, rfl, ?_⟩⟩
    obtain ⟨N, rfl⟩ := Int.eq_ofNat_of_zero_le a0
    have W1 := W.kp G1 k1
    refine ⟨d, g, c, _, 2 + N, (by show [V.ref d, V.int ((2 : Int) + (N : Int))] = _; rfl), W1.G, by omega, by omega, fun lw ws H2' wl wn ww ew' hw0 G2' k2' => ?_⟩
    obtain ⟨wd, wg⟩ := W1.G.nd hw0
    have W2' : Wd TT d g c (t + 100) H2' := (W1.kp G2' k2').mono (by omega)
    refine ⟨(by show 0 ≤ sizeLine; decide), fun D hD2 => ⟨_, _, rfl, ?_⟩⟩
    have sD := Same.new (o := .lst []) (Same.refl H2') hD2
    obtain ⟨Dd, Dg⟩ := W2'.G.nd hD2
    have Dc := W2'.G.nc hD2
    have nwD : D ≠ lw := fun z => by rw [z, ew'] at hD2; cases hD2
    have W2 := W2'.same sD
    have n2' : Kn d g H H2' := (Kn.kp k1).trans (.kp k2')
    have n2 := n2'.trans (.same sD)
    have eD2 : (upd H2' D (.lst [])) D = some (.lst []) := upd_same
    have ew := sD _ _ ew'
    generalize upd H2' D (.lst []) = H2 at *
    refine ⟨_, rfl, lw, _, rfl, SqL.of ew, for_it (walk_enum (xs := ws.map V.str)) (fun i σ H' => ∃ (v3 v4 v5 : Option V) (xs : List V) (L : List Ln), σ = [some (.ref d), some (.ref lw), some (.ref D), v3, v4, v5, none] ∧ Rw K TT d g c D lw (t + 100) ws H xs L i H')
      ⟨none, none, none, [], [], rfl, W2, n2, eD2, ew, .nil, by simp, (fun l hl => by cases hl), rfl⟩ (fun i σ H' _ ⟨_, _, _, _, _, _, r⟩ => SqL.of r.ew) ?_ ?_⟩
    · rintro i v σ H'' H' hi ⟨v3, v4, v5, xs, L, rfl, r0⟩ ⟨Tp, x1, x2, rfl, hT, rfl, e1, e2⟩
      cases e1
      change (ws.map V.str)[i]? = some x2 at e2
      rw [List.getElem?_map, Option.map_eq_some_iff] at e2
      obtain ⟨wi, hwi, rfl⟩ := e2
      have hil := (List.getElem?_eq_some_iff.mp hwi).1
      have sT := Same.new (o := .tup [.int (i : Nat), .str wi]) (Same.refl H'') hT
      have r : Rw K TT d g c D lw (t + 100) ws H xs L i (upd H'' Tp (.tup [.int (i : Nat), .str wi])) := ⟨r0.W.same sT, r0.n.trans (.same sT), sT _ _ r0.eD, sT _ _ r0.ew, dpr_ext (Kn.same sT).hid _ r0.dp, r0.nm, r0.rw, r0.len⟩
      refine ⟨Tp, _, rfl, SqT.of upd_same, rfl, _, _, rfl, _, _, rfl, rfl, ?_⟩
      generalize upd H'' Tp (.tup [.int (i : Nat), .str wi]) = H' at *
      refine ⟨(by show 5 ≤ sizeLine; decide), fun p hp => ?_⟩
      have s3 := Same.new (o := .lst [.str "plain", .str "plain", .str "pair", .str "row", .str "heap"]) (Same.refl H') hp
      obtain ⟨pd, pg⟩ := r.W.G.nd hp
      have r3 : Rw K TT d g c D lw (t + 100) ws H xs L i _ := ⟨r.W.same s3, r.n.trans (.same s3), s3 _ _ r.eD, s3 _ _ r.ew, dpr_ext (Kn.same s3).hid _ r.dp, r.nm, r.rw, r.len⟩
      refine ⟨_, rfl, d, g, c, _, 5, rfl, r3.W.G, by omega, by decide, by decide, fun u1 H4 b0 b1 G4 k4 => ?_⟩
      obtain ⟨W4, n4, eD4, ew4, dp4⟩ := r3.kp G4 k4 Dd Dg wd wg
      obtain ⟨y, hy, my⟩ := at_nat (xs := kinds5.map V.str) b0 b1
      obtain ⟨kd, hkd, rfl⟩ := get_map my
      have ep4 := k4 _ _ pd pg (upd_same (H := H') (a := p) (o := .lst [.str "plain", .str "plain", .str "pair", .str "row", .str "heap"]))
      refine ⟨p, _, _, _, rfl, rfl, SqL.of ep4, hy, ?_⟩
      -- what comes behind, whatever many is
      have fin : ∀ (m : Nat) (H5 : Hp), (kd, m) ∈ sortsA → Wd TT d g c (t + 100 + 2 * (i + 1)) H5 → Kn d g H H5 → H5 D = some (.lst xs) → H5 lw = some (.lst (ws.map V.str)) → DpAll K (hid [d, g] H5) xs (L.map rowD) →
          ∀ q, H5 q = none → ∃ (v2 v3 v4 : Option V) (xs' : List V) (L' : List Ln), [some (V.ref d), some (.ref lw), some (.ref D), some (.int (i : Nat)), some (.str wi), some (.str kd), none] = [some (.ref d), some (.ref lw), some (.ref D), v2, v3, v4, none] ∧ Rw K TT d g c D lw (t + 100) ws H xs' L' (i + 1) (upd (upd H5 q (.tup [.str wi, .str kd, .int m])) D (.lst (xs ++ [.ref q]))) := by
        intro m H5 hm W5 n5 eD5 ew5 dp5 q hq
        have s6 := Same.new (o := .tup [.str wi, .str kd, .int m]) (Same.refl H5) hq
        have nq : D ≠ q := ne_of_none eD5 hq
        obtain ⟨qd, qg⟩ := W5.G.nd hq
        have W6 := W5.same s6
        have eD6 := s6 _ _ eD5
        refine ⟨_, _, _, xs ++ [.ref q], L ++ [(wi, kd, m)], rfl, W6.off eD6 Dd Dg Dc, (n5.trans (.same s6)).updF n2' hD2, upd_same, ?_, ?_, ?_, ?_, ?_⟩
        · rw [upd_ne nwD.symm]
          exact s6 _ _ ew5
        · have tk : TupK (hid [d, g] H5) (hid [d, g] (upd (upd H5 q (.tup [.str wi, .str kd, .int m])) D (.lst (xs ++ [.ref q])))) := fun b o e hb => by
            obtain ⟨b1, b2, b3⟩ := hid_got e
            refine hid_get b1 b2 ?_
            rw [upd_ne (fun z => ?_)]
            · exact s6 _ _ b3
            · rw [z, eD5] at b3
              cases b3
              rcases hb with ⟨_, z⟩ | ⟨_, _, z⟩ <;> cases z
          refine dpr_snoc (dpr_tk tk _ dp5) (.tup (SqT.of (hid_get qd qg ?_)) (.cons (.str _) (.cons (.str _) (.cons (.int _) .nil))))
          rw [upd_ne nq.symm]
          exact upd_same
        · rw [List.map_append, r.nm, take_snoc hwi]
          rfl
        · intro l hl
          rcases List.mem_append.mp hl with hl | hl
          · exact r.rw l hl
          · rw [List.mem_singleton.mp hl]
            exact hm
        · rw [List.length_append, r.len]
          rfl
      refine ⟨_, rfl, .inl ⟨rfl, _, SqL.of eD4⟩, _, rfl, _, rfl, _, rfl, rfl, _, rfl, ?_⟩
      refine ite2 (fun h1 => ?_) (fun h1 => ?_)
      · have h1' : kd = "plain" := V.str.inj (of_decide_eq_true h1)
        subst h1'
        refine ⟨_, rfl, d, g, c, _, 5, rfl, W4.G, by omega, by decide, by decide, fun u2 H5 c0 c1 G5 k5 => ?_⟩
        obtain ⟨m, rfl⟩ := Int.eq_ofNat_of_zero_le c0
        have hm5 : m < 5 := by omega
        have hms : ((Str.ofString "plain"), m) ∈ sortsA := by
          have : m = 0 ∨ m = 1 ∨ m = 2 ∨ m = 3 ∨ m = 4 := by omega
          rcases this with rfl | rfl | rfl | rfl | rfl <;> decide +kernel
        have W5 := (W4.kp G5 k5)
        have eD5 := k5 _ _ Dd Dg eD4
        refine ⟨(by show 3 ≤ sizeLine; decide), fun q hq => ?_⟩
        have nq : D ≠ q := ne_of_none eD5 hq
        refine ⟨D, xs, .ref q, rfl, rfl, by rw [upd_ne nq]; exact eD5, by rw [r.len, sizeLine_eq]; omega, ?_⟩
        exact fin m H5 hms (W5.mono (by omega)) (n4.trans (.kp k5)) eD5 (k5 _ _ wd wg ew4) (dpr_ext (Kn.kp k5).hid _ dp4) q hq
      · have hk : (kd, 2) ∈ sortsA := by
          have : ∀ k ∈ kinds5, decide (V.str k = V.str (Str.ofString "plain")) = false → (k, 2) ∈ sortsA := by decide +kernel
          exact this kd hkd (by simpa using h1)
        refine ⟨(by show 3 ≤ sizeLine; decide), fun q hq => ?_⟩
        have nq : D ≠ q := ne_of_none eD4 hq
        refine ⟨D, xs, .ref q, rfl, rfl, by rw [upd_ne nq]; exact eD4, by rw [r.len, sizeLine_eq]; omega, ?_⟩
        exact fin 2 H4 hk (W4.mono (by omega)) n4 eD4 ew4 dp4 q hq
    · rintro σ H' ⟨v2, v3, v4, xs, L, rfl, r⟩
      have hxl := r.len
      rw [List.length_map, wl] at hxl
      have hnm := r.nm
      rw [List.length_map, List.take_length] at hnm
      have hLl : L.length = 2 + N := by
        have := congrArg List.length hnm
        rw [List.length_map, wl] at this
        exact this
      have hWr := r.W
      rw [List.length_map, wl] at hWr
      refine ⟨_, rfl, _, rfl, D, _, rfl, .inl (SqL.of r.eD), d, g, c, _, ((xs.length : Nat) : Int), rfl, hWr.G, by omega, by omega, by omega, fun at' H3 b0 b1 G3 k3 => ?_⟩
      obtain ⟨A, rfl⟩ := Int.eq_ofNat_of_zero_le b0
      have hA : A < xs.length := by omega
      have W3 := hWr.kp G3 k3
      have n3 := r.n.trans (.kp k3)
      have eD3 := k3 _ _ Dd Dg r.eD
      have dp3 : DpAll K (hid [d, g] H3) xs (L.map rowD) := dpr_ext (Kn.kp k3).hid _ r.dp
      obtain ⟨l, hl, hld⟩ := dpr_at dp3 (List.getElem?_eq_getElem hA)
      obtain ⟨b, eb, hb⟩ := row_at hld
      refine ⟨_, rfl, _, rfl, D, xs, A, .ref b, rfl, rfl, SqL.of eD3, by rw [← eb]; exact atI_nat (List.getElem?_eq_getElem hA), b, _, 0, _, rfl, rfl, sqt_same hid_le hb, atI_nat (j := 0) rfl, (by show 3 ≤ sizeLine; decide), fun q hq => ?_⟩
      have s4 := Same.new (o := .tup [.str l.1, .str "plain", .int 0]) (Same.refl H3) hq
      have nq : D ≠ q := ne_of_none eD3 hq
      obtain ⟨qd, qg⟩ := W3.G.nd hq
      have eD4 := s4 _ _ eD3
      have W4 := W3.same s4
      refine ⟨_, rfl, _, rfl, D, xs, A, A, rfl, rfl, eD4, by unfold ixN; rw [if_pos (by omega), if_pos (by omega)]; rfl, _, rfl, ?_⟩
      refine k D (L.set A (l.1, "plain", 0)) (xs.set A (.ref q)) _ (hid_get Dd Dg upd_same) ?_ ?_ ((W4.off eD4 Dd Dg Dc).mono (by omega)) ((n3.trans (.same s4)).updF n2' hD2)
      · have tk : TupK (hid [d, g] H3) (hid [d, g] (upd (upd H3 q (.tup [.str l.1, .str "plain", .int 0])) D (.lst (xs.set A (.ref q))))) := fun b o e hb => by
          obtain ⟨b1, b2, b3⟩ := hid_got e
          refine hid_get b1 b2 ?_
          rw [upd_ne (fun z => ?_)]
          · exact s4 _ _ b3
          · rw [z, eD3] at b3
            cases b3
            rcases hb with ⟨_, z⟩ | ⟨_, _, z⟩ <;> cases z
        refine dpr_set (.tup (SqT.of (hid_get qd qg ?_)) (.cons (.str _) (.cons (.str _) (.cons (.int _) .nil)))) A (dpr_tk tk _ dp3)
        rw [upd_ne nq.symm]
        exact upd_same
      · have hnm' : (L.set A (l.1, "plain", 0)).map (·.1) = ws := by
          rw [List.map_set]
          show (L.map (·.1)).set A l.1 = ws
          rw [hnm]
          have : ws[A]? = some l.1 := by rw [← hnm, List.getElem?_map, hl]; rfl
          apply List.ext_getElem?
          intro i
          rw [List.getElem?_set]
          by_cases h : A = i
          · subst h
            have hl2 := (List.getElem?_eq_some_iff.mp this).1
            rw [if_pos rfl, if_pos hl2, this]
          · rw [if_neg h]
        refine sg_of (fun m hm => ?_) (by rw [hnm']; exact wn) (fun z => ?_) (by rw [List.length_set, hLl]; omega) fun m hm => ?_
        · exact ww _ (by rw [← hnm']; exact List.mem_map.mpr ⟨m, hm, rfl⟩)
        · have := congrArg List.length z
          rw [List.length_set, hLl] at this
          simp at this
        · rcases List.mem_or_eq_of_mem_set hm with h | h
          · exact r.rw m h
          · rw [h]
            show (Str.ofString "plain", 0) ∈ sortsA
            decide +kernel
end
end K1
set_option Elab.async false
set_option linter.all false
set_option maxRecDepth 100000
set_option maxHeartbeats 1000000
namespace K1
open PySem PySem.Spec PyProof.Rows L2
open PySem.W (EachIs)
abbrev Fl := List (Str × G)
def pairG (p : Str × G) : G := .t [.s p.1, p.2]
def lookF (fl : Fl) (x : Str) : Option G := (fl.find? fun p => decide (p.1 = x)).map (·.2)
theorem lookF_mem {fl : Fl} {x : Str} {g : G} (h : lookF fl x = some g) : ∃ p ∈ fl, p.1 = x ∧ p.2 = g := by
  unfold lookF at h
  obtain ⟨p, h1, h2⟩ := Option.map_eq_some_iff.mp h
  exact ⟨p, List.mem_of_find?_eq_some h1, by simpa using List.find?_some h1, h2⟩
/-- the table of a filling -/
def TabF (K : PySem.W.Frag) (H : Hp) (a : Addr) (fl : Fl) : Prop := ∃ vs : List V, H a = some (.dK ((fl.zip vs).map fun q => (Sum.inr q.1.1, q.2))) ∧ InL K H vs (fl.map (·.2))
theorem TabF.ext {K : PySem.W.Frag} {H H' : Hp} {a : Addr} {fl : Fl} (s : Ext H H') (h : TabF K H a fl) : TabF K H' a fl := by
  obtain ⟨vs, h1, h2⟩ := h
  exact ⟨vs, s _ _ h1 (by intro _ z; cases z), h2.ext s⟩
theorem TabF.same {K : PySem.W.Frag} {H H' : Hp} {a : Addr} {fl : Fl} (s : Same H H') (h : TabF K H a fl) : TabF K H' a fl := h.ext (.of s)
theorem tab_get {K : PySem.W.Frag} {H : Hp} {x : Str} : ∀ {fl : Fl} {vs : List V}, InL K H vs (fl.map (·.2)) → (lookF fl x = none ∧ valV ((fl.zip vs).map fun q => ((Sum.inr q.1.1 : Key), q.2)) (.inr x) = none) ∨ ∃ g v, lookF fl x = some g ∧ valV ((fl.zip vs).map fun q => ((Sum.inr q.1.1 : Key), q.2)) (.inr x) = some v ∧ In K H v g
  | [], _, .nil => .inl ⟨rfl, rfl⟩
  | p :: fl, v :: vs, .cons h t => by
    by_cases e : p.1 = x
    · refine .inr ⟨p.2, v, ?_, valV_pos (p := ((Sum.inr p.1 : Key), v)) (by rw [e]), h⟩
      unfold lookF
      rw [List.find?_cons_of_pos (by simpa using e)]
      rfl
    · have e1 : lookF (p :: fl) x = lookF fl x := by
        unfold lookF
        rw [List.find?_cons_of_neg (by simpa using e)]
      have e2 : valV (((p :: fl).zip (v :: vs)).map fun q => ((Sum.inr q.1.1 : Key), q.2)) (.inr x) = valV ((fl.zip vs).map fun q => ((Sum.inr q.1.1 : Key), q.2)) (.inr x) := valV_neg (p := ((Sum.inr p.1 : Key), v)) (fun z => e (Sum.inr.inj z))
      rw [e1, e2]
      exact tab_get t
theorem merge_snoc : ∀ (more kvs : List (Key × V)), ((kvs ++ more).map (·.1)).Nodup → mergeK kvs more = kvs ++ more
  | [], kvs, _ => by simp [mergeK]
  | p :: r, kvs, h => by
    have hn : (kvs.any fun kv => decide (kv.1 = p.1)) = false := by
      rw [Bool.eq_false_iff]
      intro z
      obtain ⟨q, hq, e⟩ := List.any_eq_true.mp z
      have e' : q.1 = p.1 := by simpa using e
      rw [List.map_append, List.nodup_append] at h
      exact h.2.2 q.1 (List.mem_map.mpr ⟨q, hq, rfl⟩) p.1 (by simp) e'
    have e1 : putK kvs p.1 p.2 = kvs ++ [p] := by
      unfold putK
      rw [if_neg (by rw [hn]; simp)]
    show mergeK (putK kvs p.1 p.2) r = _
    rw [e1, merge_snoc r (kvs ++ [p]) (by simpa using h)]
    simp
theorem zip_keys : ∀ {acc : Fl} {vs : List V}, vs.length = acc.length → (((acc.zip vs).map fun q => ((Sum.inr q.1.1 : Key), q.2)).map (·.1)) = acc.map fun p => (Sum.inr p.1 : Key)
  | [], [], _ => rfl
  | p :: acc, v :: vs, h => by
    have := zip_keys (acc := acc) (vs := vs) (by simpa using h)
    simp only [List.zip_cons_cons, List.map_cons]
    rw [this]
theorem tabs_offD {T : List (Addr × Str)} {H : Hp} {l : Addr} {zs : List (Key × V)} {o : HO} (h : LamX.Tabs T H) (e : H l = some (.dK zs)) : LamX.Tabs T (upd H l o) := fun p hp => by
  obtain ⟨ps, h1, h2, h3⟩ := h p hp
  have off : ∀ {b : Addr} {u : HO}, H b = some u → (∀ xs, u ≠ .dK xs) → upd H l o b = some u := fun {b u} q n => by
    rw [upd_ne (fun z => by rw [z, e] at q; exact n _ (Option.some.inj q).symm)]
    exact q
  refine ⟨ps, off h1 (by intro _ z; cases z), h2, fun pos cv hc => ?_⟩
  obtain ⟨cc, rfl, q⟩ := h3 pos cv hc
  exact ⟨cc, rfl, off q (by intro _ z; cases z)⟩
theorem tk_offD {H : Hp} {l : Addr} {zs : List (Key × V)} {o : HO} (e : H l = some (.dK zs)) : TupK H (upd H l o) := fun b u q h => by
  rw [upd_ne (fun z => by
    rw [z, e] at q
    cases q
    rcases h with ⟨_, z⟩ | ⟨_, _, z⟩ <;> cases z)]
  exact q
theorem zip_snoc {fl : Fl} {vs : List V} {p : Str × G} {v : V} (h : vs.length = fl.length) : ((fl ++ [p]).zip (vs ++ [v])).map (fun q => ((Sum.inr q.1.1 : Key), q.2)) = (fl.zip vs).map (fun q => ((Sum.inr q.1.1 : Key), q.2)) ++ [((Sum.inr p.1 : Key), v)] := by
  rw [List.zip_append h.symm, List.map_append]
  rfl
theorem put_new {fl : Fl} {vs : List V} {x : Str} {v : V} (h : x ∉ fl.map (·.1)) : putK ((fl.zip vs).map fun q => ((Sum.inr q.1.1 : Key), q.2)) (.inr x) v = (fl.zip vs).map (fun q => ((Sum.inr q.1.1 : Key), q.2)) ++ [((Sum.inr x : Key), v)] := by
  unfold putK
  rw [if_neg]
  intro z
  obtain ⟨q, hq, e⟩ := List.any_eq_true.mp z
  obtain ⟨r, hr, rfl⟩ := List.mem_map.mp hq
  have e' : r.1.1 = x := by simpa using e
  exact h (List.mem_map.mpr ⟨r.1, (List.of_mem_zip hr).1, e'⟩)
def LtS (x y : Str) : Prop := x.cps.toList < y.cps.toList
def ltB : List Str → Bool
  | [] => true
  | x :: r => r.all (fun y => decide (x.cps.toList < y.cps.toList)) && ltB r
theorem ltB_pw : ∀ {l : List Str}, ltB l = true → l.Pairwise LtS
  | [], _ => .nil
  | x :: r, h => by
    have h' := Bool.and_eq_true_iff.mp h
    exact .cons (fun y hy => (show x.cps.toList < y.cps.toList from of_decide_eq_true (List.all_eq_true.mp h'.1 y hy))) (ltB_pw h'.2)
theorem pw_nodup {l : List Str} (h : l.Pairwise LtS) : l.Nodup := h.imp fun {a b} hab z => by
  rw [z] at hab
  exact absurd hab (by unfold LtS; simp)
theorem tk_offZ {H : Hp} {l : Addr} {od : Obj} {zs : List (Key × V)} {o : HO} (e : H l = some (.frz od (.dK zs))) : TupK H (upd H l o) := fun b u q h => by
  rw [upd_ne (fun z => by
    rw [z, e] at q
    cases q
    rcases h with ⟨_, z⟩ | ⟨_, _, z⟩ <;> cases z)]
  exact q
theorem tabs_offZ {T : List (Addr × Str)} {H : Hp} {l : Addr} {od : Obj} {zs : List (Key × V)} {o : HO} (h : LamX.Tabs T H) (e : H l = some (.frz od (.dK zs))) : LamX.Tabs T (upd H l o) := fun p hp => by
  obtain ⟨ps, h1, h2, h3⟩ := h p hp
  have off : ∀ {b : Addr} {u : HO}, H b = some u → (∀ o' xs, u ≠ .frz o' xs) → upd H l o b = some u := fun {b u} q n => by
    rw [upd_ne (fun z => by rw [z, e] at q; exact n _ _ (Option.some.inj q).symm)]
    exact q
  refine ⟨ps, off h1 (by intro _ _ z; cases z), h2, fun pos cv hc => ?_⟩
  obtain ⟨cc, rfl, q⟩ := h3 pos cv hc
  exact ⟨cc, rfl, off q (by intro _ _ z; cases z)⟩
theorem each_len {α β : Type} {R : α → β → Prop} : ∀ {as : List α} {bs : List β}, EachIs R as bs → as.length = bs.length
  | _, _, .nil => rfl
  | _, _, .cons _ t => by rw [List.length_cons, List.length_cons, each_len t]
theorem each_mem {α β : Type} {R : α → β → Prop} {a : α} : ∀ {as : List α} {bs : List β}, EachIs R as bs → a ∈ as → ∃ b, b ∈ bs ∧ R a b
  | _, _, .nil, h => absurd h (by simp)
  | _, _, .cons h t, hm => by
    rcases List.mem_cons.mp hm with rfl | hm
    · exact ⟨_, List.mem_cons_self, h⟩
    · obtain ⟨b, h1, h2⟩ := each_mem t hm
      exact ⟨b, List.mem_cons_of_mem _ h1, h2⟩
theorem val_at {x : Str} {g : G} {v : V} : ∀ {fl : Fl} {vs : List V} {j : Nat}, (fl.map (·.1)).Nodup → fl[j]? = some (x, g) → vs[j]? = some v → valV ((fl.zip vs).map fun q => ((Sum.inr q.1.1 : Key), q.2)) (.inr x) = some v
  | [], _, j, _, h, _ => by simp at h
  | p :: fl, [], j, _, _, h => by simp at h
  | p :: fl, u :: vs, 0, _, h, h2 => by
    have e : p = (x, g) := Option.some.inj h
    subst e
    have e2 : u = v := Option.some.inj h2
    subst e2
    exact valV_pos (p := ((Sum.inr x : Key), u)) rfl
  | p :: fl, u :: vs, j + 1, hn, h, h2 => by
    rw [List.map_cons, List.nodup_cons] at hn
    have h' : fl[j]? = some (x, g) := by simpa using h
    have ne : p.1 ≠ x := fun z => hn.1 (List.mem_map.mpr ⟨(x, g), List.mem_of_getElem? h', z.symm⟩)
    have e2 : valV (((p :: fl).zip (u :: vs)).map fun q => ((Sum.inr q.1.1 : Key), q.2)) (.inr x) = valV ((fl.zip vs).map fun q => ((Sum.inr q.1.1 : Key), q.2)) (.inr x) := valV_neg (p := ((Sum.inr p.1 : Key), u)) (fun z => ne (Sum.inr.inj z))
    rw [e2]
    exact val_at hn.2 h' (by simpa using h2)
def setF (acc : Fl) (x : Str) (g : G) : Fl := if (acc.any fun p => decide (p.1 = x)) = true then acc.map (fun p => if p.1 = x then (p.1, g) else p) else acc ++ [(x, g)]
theorem set_mem {acc : Fl} {x : Str} {g : G} {p : Str × G} (h : p ∈ setF acc x g) : p ∈ acc ∨ p = (x, g) := by
  unfold setF at h
  split at h
  · obtain ⟨q, hq, rfl⟩ := List.mem_map.mp h
    by_cases e : q.1 = x
    · rw [if_pos e, e]; exact .inr rfl
    · rw [if_neg e]; exact .inl hq
  · rcases List.mem_append.mp h with h | h
    · exact .inl h
    · exact .inr (List.mem_singleton.mp h)
theorem set_any {acc : Fl} {x : Str} : (acc.any fun p => decide (p.1 = x)) = true ↔ x ∈ acc.map (·.1) := by
  rw [List.any_eq_true, List.mem_map]
  constructor
  · rintro ⟨p, hp, e⟩
    exact ⟨p, hp, by simpa using e⟩
  · rintro ⟨p, hp, e⟩
    exact ⟨p, hp, by simpa using e⟩
theorem set_keys (acc : Fl) (x : Str) (g : G) : (setF acc x g).map (·.1) = if x ∈ acc.map (·.1) then acc.map (·.1) else acc.map (·.1) ++ [x] := by
  unfold setF
  by_cases h : (acc.any fun p => decide (p.1 = x)) = true
  · rw [if_pos h, if_pos (set_any.mp h), List.map_map]
    refine List.map_congr_left fun p _ => ?_
    show (if p.1 = x then (p.1, g) else p).1 = p.1
    split <;> rfl
  · rw [if_neg h, if_neg (fun z => h (set_any.mpr z)), List.map_append]
    rfl
theorem set_nd {acc : Fl} {x : Str} {g : G} (h : (acc.map (·.1)).Nodup) : ((setF acc x g).map (·.1)).Nodup := by
  rw [set_keys]
  split
  · exact h
  · next e =>
    rw [List.nodup_append]
    exact ⟨h, by simp, fun a ha b hb => by rw [List.mem_singleton.mp hb]; exact fun z => e (z ▸ ha)⟩
theorem set_len (acc : Fl) (x : Str) (g : G) : (setF acc x g).length ≤ acc.length + 1 := by
  unfold setF
  split
  · rw [List.length_map]; omega
  · simp
theorem look_map {x y : Str} {g : G} : ∀ {acc : Fl}, x ∈ acc.map (·.1) → lookF (acc.map fun p => if p.1 = x then (p.1, g) else p) y = if y = x then some g else lookF acc y
  | [], h => absurd h (by simp)
  | p :: acc, h => by
    rw [List.map_cons]
    have cons : ∀ (q : Str × G) (r : Fl), lookF (q :: r) y = if q.1 = y then some q.2 else lookF r y := fun q r => by
      unfold lookF
      by_cases e : q.1 = y
      · rw [List.find?_cons_of_pos (by simpa using e), if_pos e]; rfl
      · rw [List.find?_cons_of_neg (by simpa using e), if_neg e]
    rw [cons, cons]
    by_cases e1 : p.1 = x
    · rw [if_pos e1]
      by_cases e2 : y = x
      · rw [if_pos (by rw [e1, e2]), if_pos e2]
      · have n : ¬ p.1 = y := fun z => e2 (z.symm.trans e1)
        rw [if_neg (show ¬ (p.1, g).1 = y from n), if_neg n, if_neg e2]
        by_cases e3 : x ∈ acc.map (·.1)
        · rw [look_map e3, if_neg e2]
        · congr 1
          refine (List.map_congr_left fun q hq => ?_).trans (List.map_id acc)
          rw [if_neg (fun z => e3 (List.mem_map.mpr ⟨q, hq, z⟩))]; rfl
    · rw [if_neg e1]
      have h' : x ∈ acc.map (·.1) := by
        rw [List.map_cons] at h
        rcases List.mem_cons.mp h with h | h
        · exact absurd h.symm e1
        · exact h
      rw [look_map h']
      by_cases e3 : p.1 = y
      · rw [if_pos e3, if_neg (fun z => e1 (e3.trans z)), if_pos e3]
      · rw [if_neg e3, if_neg e3]
theorem look_none {acc : Fl} {x : Str} : lookF acc x = none ↔ x ∉ acc.map (·.1) := by
  unfold lookF
  rw [Option.map_eq_none_iff, List.find?_eq_none]
  constructor
  · intro h z
    obtain ⟨p, hp, e⟩ := List.mem_map.mp z
    exact h p hp (by simpa using e)
  · intro h p hp e
    exact h (List.mem_map.mpr ⟨p, hp, by simpa using e⟩)
theorem look_set (acc : Fl) (x y : Str) (g : G) : lookF (setF acc x g) y = if y = x then some g else lookF acc y := by
  unfold setF
  by_cases h : (acc.any fun p => decide (p.1 = x)) = true
  · rw [if_pos h]
    exact look_map (set_any.mp h)
  · rw [if_neg h]
    have hx : lookF acc x = none := look_none.mpr fun z => h (set_any.mpr z)
    unfold lookF at hx ⊢
    rw [List.find?_append]
    by_cases e : y = x
    · rw [if_pos e, e]
      rw [Option.map_eq_none_iff] at hx
      rw [hx, List.find?_cons_of_pos (by simp)]
      rfl
    · rw [if_neg e, List.find?_cons_of_neg (by simpa using fun z => e z.symm), List.find?_nil, Option.or_none]
theorem look_of {acc : Fl} {p : Str × G} (hn : (acc.map (·.1)).Nodup) (h : p ∈ acc) : lookF acc p.1 = some p.2 := by
  induction acc with
  | nil => exact absurd h (by simp)
  | cons q acc ih =>
    rw [List.map_cons, List.nodup_cons] at hn
    unfold lookF at ih ⊢
    rcases List.mem_cons.mp h with rfl | h
    · rw [List.find?_cons_of_pos (by simp)]; rfl
    · rw [List.find?_cons_of_neg (by simpa using fun z : q.1 = p.1 => hn.1 (by rw [z]; exact List.mem_map.mpr ⟨p, h, rfl⟩)), ih hn.2 h]
theorem put_tab {K : PySem.W.Frag} {H : Hp} {x : Str} {v : V} {g : G} {acc : Fl} {vs : List V} (hv : InL K H vs (acc.map (·.2))) (h : In K H v g) :
    ∃ vs', putK ((acc.zip vs).map fun q => ((Sum.inr q.1.1 : Key), q.2)) (.inr x) v = (((setF acc x g).zip vs').map fun q => ((Sum.inr q.1.1 : Key), q.2)) ∧ InL K H vs' ((setF acc x g).map (·.2)) := by
  have hl : vs.length = acc.length := by rw [hv.len, List.length_map]
  by_cases e : x ∈ acc.map (·.1)
  · refine ⟨(acc.zip vs).map fun q => if q.1.1 = x then v else q.2, ?_, ?_⟩
    · have e1 : (((acc.zip vs).map fun q => ((Sum.inr q.1.1 : Key), q.2)).any fun kv => decide (kv.1 = Sum.inr x)) = true := by
        rw [List.any_eq_true]
        obtain ⟨p, hp, rfl⟩ := List.mem_map.mp e
        obtain ⟨j, hj, e2⟩ := List.getElem_of_mem hp
        have hj2 : j < vs.length := by omega
        have hz : (acc.zip vs)[j]? = some (acc[j], vs[j]) := List.getElem?_zip_eq_some.mpr ⟨by simp [hj], by simp [hj2]⟩
        exact ⟨_, List.mem_map.mpr ⟨_, List.mem_of_getElem? hz, rfl⟩, by simp [e2]⟩
      unfold putK setF
      rw [if_pos e1, if_pos (set_any.mpr e), List.map_map]
      clear e e1 hv h
      induction acc generalizing vs with
      | nil => rfl
      | cons p acc ih =>
        cases vs with
        | nil => simp at hl
        | cons u vs =>
          simp only [List.zip_cons_cons, List.map_cons, Function.comp_apply]
          rw [ih (by simpa using hl)]
          congr 1
          by_cases e : p.1 = x
          · rw [if_pos e, if_pos (by rw [e]), if_pos e]
          · rw [if_neg e, if_neg (fun z => e (Sum.inr.inj z)), if_neg e]
    · unfold setF
      rw [if_pos (set_any.mpr e), List.map_map]
      clear e
      induction acc generalizing vs with
      | nil => exact .nil
      | cons p acc ih =>
        cases vs with
        | nil => simp at hl
        | cons u vs =>
          rw [List.map_cons] at hv
          cases hv with
          | cons a b =>
            simp only [List.zip_cons_cons, List.map_cons, Function.comp_apply]
            refine .cons ?_ (ih b (by simpa using hl))
            by_cases e : p.1 = x
            · rw [if_pos e, if_pos e]; exact h
            · rw [if_neg e, if_neg e]; exact a
  · refine ⟨vs ++ [v], ?_, ?_⟩
    · rw [put_new e]
      unfold setF
      rw [if_neg (fun z => e (set_any.mp z)), zip_snoc hl]
    · unfold setF
      rw [if_neg (fun z => e (set_any.mp z)), List.map_append]
      exact hv.app (.cons h .nil)
/-! ### sorted -/
def sortS (ks : List Str) : List Str := ks.mergeSort fun a b => decide (a.cps.toList ≤ b.cps.toList)
theorem sortS_perm (ks : List Str) : (sortS ks).Perm ks := List.mergeSort_perm _ _
theorem sortS_pw (ks : List Str) : (sortS ks).Pairwise fun a b => a.cps.toList ≤ b.cps.toList := by
  refine (List.pairwise_mergeSort (fun a b c h1 h2 => ?_) (fun a b => ?_) ks).imp fun h => of_decide_eq_true h
  · exact decide_eq_true (List.le_trans (of_decide_eq_true h1) (of_decide_eq_true h2))
  · rcases List.le_total a.cps.toList b.cps.toList with h | h <;> simp [h]
theorem sortS_uniq {ys ks : List Str} (hp : ys.Perm ks) (h : ys.Pairwise fun a b => a.cps.toList ≤ b.cps.toList) : ys = sortS ks :=
  List.Perm.eq_of_pairwise (fun x y _ _ h1 h2 => ext_l (List.le_antisymm h1 h2)) h (sortS_pw ks) (hp.trans (sortS_perm ks).symm)
theorem rising_pw : ∀ {p : Str} {l : List Str}, risingS p l = true → (p :: l).Pairwise fun a b => a.cps.toList ≤ b.cps.toList
  | p, [], _ => List.pairwise_singleton _ _
  | p, x :: r, h => by
    have h' : (!ltCps x.cps.toList p.cps.toList) = true ∧ risingS x r = true := by
      have := h
      unfold risingS at this
      exact Bool.and_eq_true_iff.mp this
    have h1 : p.cps.toList ≤ x.cps.toList := by
      have := h'.1
      rw [ltCps_eq] at this
      simpa [List.not_lt] using this
    have ih := rising_pw h'.2
    refine .cons (fun y hy => ?_) ih
    rcases List.mem_cons.mp hy with rfl | hy
    · exact h1
    · exact List.le_trans h1 ((List.pairwise_cons.mp ih).1 y hy)
theorem sortedS_is {ys ks : List Str} (hp : ys.Perm ks) (h : sortedS ys = true) : ys = sortS ks := by
  refine sortS_uniq hp ?_
  cases ys with
  | nil => exact .nil
  | cons x r => exact rising_pw h
theorem sortS_nd {ks : List Str} (h : ks.Nodup) : (sortS ks).Pairwise LtS := by
  have h1 := sortS_pw ks
  have h2 : (sortS ks).Nodup := (sortS_perm ks).nodup_iff.mpr h
  refine (h1.and h2).imp fun {a b} ⟨x, y⟩ => ?_
  unfold LtS
  rcases List.le_iff_lt_or_eq.mp x with z | z
  · exact z
  · exact absurd (ext_l z) y
def sortFl (acc : Fl) : Fl := (sortS (acc.map (·.1))).map fun x => (x, (lookF acc x).getD (.s x))
theorem sortFl_keys (acc : Fl) : (sortFl acc).map (·.1) = sortS (acc.map (·.1)) := by
  unfold sortFl
  rw [List.map_map]
  exact List.map_id _
theorem sortFl_nd {acc : Fl} (h : (acc.map (·.1)).Nodup) : ((sortFl acc).map (·.1)).Nodup := by
  rw [sortFl_keys]
  exact (sortS_perm _).nodup_iff.mpr h
theorem sortFl_mem {acc : Fl} {p : Str × G} (h : p ∈ sortFl acc) : p ∈ acc := by
  obtain ⟨x, hx, rfl⟩ := List.mem_map.mp h
  have hx' := (sortS_perm _).mem_iff.mp hx
  cases e : lookF acc x with
  | none => exact absurd hx' (look_none.mp e)
  | some g =>
    obtain ⟨q, h1, h2, h3⟩ := lookF_mem e
    show (x, g) ∈ acc
    rw [← h2, ← h3]
    exact h1
theorem sortFl_len (acc : Fl) : (sortFl acc).length = acc.length := by
  unfold sortFl
  rw [List.length_map, (sortS_perm _).length_eq, List.length_map]
theorem look_mapS {f : Str → G} {x : Str} : ∀ {ks : List Str}, lookF (ks.map fun y => (y, f y)) x = if x ∈ ks then some (f x) else none
  | [] => rfl
  | k :: ks => by
    have ih := look_mapS (f := f) (x := x) (ks := ks)
    unfold lookF at ih ⊢
    rw [List.map_cons]
    by_cases e : k = x
    · rw [List.find?_cons_of_pos (by simpa using e), if_pos (by rw [e]; exact List.mem_cons_self), e]; rfl
    · rw [List.find?_cons_of_neg (by simpa using e), ih]
      by_cases h : x ∈ ks
      · rw [if_pos h, if_pos (List.mem_cons_of_mem _ h)]
      · rw [if_neg h, if_neg (fun z => by rcases List.mem_cons.mp z with z | z; exact e z.symm; exact h z)]
theorem look_sortFl (acc : Fl) (x : Str) : lookF (sortFl acc) x = lookF acc x := by
  unfold sortFl
  rw [look_mapS]
  by_cases h : x ∈ sortS (acc.map (·.1))
  · rw [if_pos h]
    cases e : lookF acc x with
    | none => exact absurd ((sortS_perm _).mem_iff.mp h) (look_none.mp e)
    | some g => rfl
  · rw [if_neg h]
    exact (look_none.mpr fun z => h ((sortS_perm _).mem_iff.mpr z)).symm
theorem sortFl_eq {a b : Fl} (ha : (a.map (·.1)).Nodup) (hb : (b.map (·.1)).Nodup) (h : ∀ x, lookF a x = lookF b x) : sortFl a = sortFl b := by
  have hm : ∀ x, x ∈ a.map (·.1) ↔ x ∈ b.map (·.1) := fun x => by
    have e : x ∉ a.map (·.1) ↔ x ∉ b.map (·.1) := by rw [← look_none, ← look_none, h]
    exact ⟨fun z => Classical.byContradiction fun w => e.mpr w z, fun z => Classical.byContradiction fun w => e.mp w z⟩
  have hp : (a.map (·.1)).Perm (b.map (·.1)) := (List.perm_ext_iff_of_nodup ha hb).mpr hm
  have es : sortS (a.map (·.1)) = sortS (b.map (·.1)) := sortS_uniq ((sortS_perm _).trans hp) (sortS_pw _)
  unfold sortFl
  rw [es]
  exact List.map_congr_left fun x _ => by rw [h]
/-! ### put in, twice -/
theorem putK_new {kvs : List (Key × V)} {k : Key} {v : V} (h : k ∉ kvs.map (·.1)) : putK kvs k v = kvs ++ [(k, v)] := by
  unfold putK
  rw [if_neg]
  intro z
  obtain ⟨q, hq, e⟩ := List.any_eq_true.mp z
  exact h (List.mem_map.mpr ⟨q, hq, by simpa using e⟩)
theorem tab_nd {fl : Fl} {vs : List V} (hl : vs.length = fl.length) (h : (fl.map (·.1)).Nodup) : (((fl.zip vs).map fun q => ((Sum.inr q.1.1 : Key), q.2)).map (·.1)).Nodup := by
  rw [zip_keys hl]
  have e1 : (fl.map fun p => (Sum.inr p.1 : Key)) = (fl.map (·.1)).map Sum.inr := by rw [List.map_map]; rfl
  rw [e1]
  exact List.Pairwise.map Sum.inr (fun a b h z => h (Sum.inr.inj z)) h
theorem tab_keys {fl : Fl} {vs : List V} (hl : vs.length = fl.length) : ((fl.zip vs).map fun q => ((Sum.inr q.1.1 : Key), q.2)).map (·.1) = (fl.map (·.1)).map Sum.inr := by
  rw [zip_keys hl, List.map_map]
  rfl
theorem valV_at {kvs : List (Key × V)} {k : Key} {v : V} {j : Nat} (hn : (kvs.map (·.1)).Nodup) (h : kvs[j]? = some (k, v)) : valV kvs k = some v := by
  induction kvs generalizing j with
  | nil => simp at h
  | cons p r ih =>
    rw [List.map_cons, List.nodup_cons] at hn
    cases j with
    | zero =>
      have e : p = (k, v) := Option.some.inj h
      subst e
      exact valV_pos rfl
    | succ j =>
      have h' : r[j]? = some (k, v) := by simpa using h
      rw [valV_neg (fun z => hn.1 (by rw [z]; exact List.mem_map.mpr ⟨_, List.mem_of_getElem? h', rfl⟩))]
      exact ih hn.2 h'
theorem sortFl_at {acc : Fl} {j : Nat} {k : Str} (h : (sortS (acc.map (·.1)))[j]? = some k) : (sortFl acc)[j]? = some (k, (lookF acc k).getD (.s k)) := by
  unfold sortFl
  rw [List.getElem?_map, h]
  rfl
theorem sortS_look {acc : Fl} {j : Nat} {k : Str} (h : (sortS (acc.map (·.1)))[j]? = some k) : ∃ g, lookF acc k = some g := by
  have hm := (sortS_perm _).mem_iff.mp (List.mem_of_getElem? h)
  cases e : lookF acc k with
  | none => exact absurd hm (look_none.mp e)
  | some g => exact ⟨g, rfl⟩
theorem inL_tkT {K : PySem.W.Frag} {H H' : Hp} (s : TupK H H') {gs : List G} {vs : List V} (hs : ∀ g ∈ gs, tp g = true) (h : InL K H vs gs) : InL K H' vs gs := inL_tk0 gs vs (fun g hg v hv => in_tkT s g v (hs g hg) hv) h
theorem tp_pair {p : Str × G} (h : tp p.2 = true) : tp (pairG p) = true := tp_mk fun z hz => by
  simp only [List.mem_cons, List.not_mem_nil, or_false] at hz
  rcases hz with rfl | rfl
  · simp [tp]
  · exact h
end K1
set_option Elab.async false
set_option linter.all false
set_option maxRecDepth 100000
set_option maxHeartbeats 1000000
namespace K1
open PySem PySem.Spec PyProof.Rows L2
open PySem.W (EachIs)
abbrev sNb : Stmt := topS 37
/-- a spot: what is seen there, and some way to it -/
def SpotV (K : PySem.W.Frag) (n : Nat) (H : Hp) (p : V) (g : G) : Prop := ∃ (q wa : Addr) (y : V) (ws : List V), p = .ref q ∧ SqT K H q [y, .ref wa] ∧ SqT K H wa ws ∧ ws.length ≤ n ∧ In K H y g
def Spots (K : PySem.W.Frag) (n : Nat) (H : Hp) (ps : List V) (gs : List G) : Prop := EachIs (SpotV K n H) ps gs
section
variable {K : PySem.W.Frag} {n m : Nat} {H H' : Hp} {ps : List V} {gs : List G}
theorem SpotV.tk {p : V} {g : G} (t : TupK H H') (hs : shp g = true) (h : SpotV K n H p g) : SpotV K n H' p g := by
  obtain ⟨q, wa, y, ws, rfl, h1, h2, h3, h4⟩ := h
  exact ⟨q, wa, y, ws, rfl, t.sqt h1, t.sqt h2, h3, in_tk t _ _ hs h4⟩
theorem SpotV.up {p : V} {g : G} (hm : n ≤ m) (h : SpotV K n H p g) : SpotV K m H p g := by
  obtain ⟨q, wa, y, ws, rfl, h1, h2, h3, h4⟩ := h
  exact ⟨q, wa, y, ws, rfl, h1, h2, Nat.le_trans h3 hm, h4⟩
theorem Spots.tk (t : TupK H H') : ∀ {ps : List V} {gs : List G}, (∀ g ∈ gs, shp g = true) → Spots K n H ps gs → Spots K n H' ps gs
  | _, _, _, .nil => .nil
  | _, _, hs, .cons h r => .cons (h.tk t (hs _ List.mem_cons_self)) (Spots.tk t (fun g hg => hs g (List.mem_cons_of_mem _ hg)) r)
theorem Spots.up (hm : n ≤ m) : ∀ {ps : List V} {gs : List G}, Spots K n H ps gs → Spots K m H ps gs
  | _, _, .nil => .nil
  | _, _, .cons h r => .cons (h.up hm) (Spots.up hm r)
theorem Spots.len (h : Spots K n H ps gs) : ps.length = gs.length := each_len h
theorem Spots.app : ∀ {ps qs : List V} {gs hs : List G}, Spots K n H ps gs → Spots K n H qs hs → Spots K n H (ps ++ qs) (gs ++ hs)
  | _, _, _, _, .nil, h => h
  | _, _, _, _, .cons a r, h => .cons a (Spots.app r h)
theorem Spots.at {i : Nat} {p : V} (h : Spots K n H ps gs) (hp : ps[i]? = some p) : ∃ g, gs[i]? = some g ∧ SpotV K n H p g := K1.each_at h hp
end
theorem inL_nil {K : PySem.W.Frag} {H : Hp} {vs : List V} {gs : List G} (h : InL K H vs gs) : InL K H (vs ++ []) gs := by rw [List.append_nil]; exact h
/-! ### parts that stand side by side -/
def nbIn (h : Str) (ps : List G) (f : Nat) (j : Nat) : List G := (List.range j).flatMap fun k => if k + 2 < ps.length then [.t (.s h :: (ps.drop f).take (k + 2))] else []
def nbAll (h : Str) (ps : List G) (i : Nat) : List G := (List.range i).flatMap fun f => nbIn h ps f (ps.length - 1 - f)
def spNb (K : PySem.W.Frag) : Sp := fun vs H Q _ => ∃ (v : V) (h : Str) (ps : List G), vs = [v] ∧ In K H v (.t (.s h :: ps)) ∧ (∀ p ∈ ps, shp p = true) ∧ ps.length ≤ 8 ∧ ∀ H' l us, Same H H' → H l = none → H' l = some (.lst us) → Spots K 1 H' us (nbAll h ps ps.length) → Q (.ref l) H'
theorem flat_le {α : Type} {f : α → List G} {c : Nat} : ∀ {l : List α}, (∀ x ∈ l, (f x).length ≤ c) → (l.flatMap f).length ≤ c * l.length
  | [], _ => by simp
  | x :: l, h => by
    have h1 := flat_le (l := l) fun y hy => h y (List.mem_cons_of_mem _ hy)
    have h2 := h x List.mem_cons_self
    rw [List.flatMap_cons, List.length_append, List.length_cons, Nat.mul_add]
    omega
theorem nbIn_len (h : Str) (ps : List G) (f j : Nat) : (nbIn h ps f j).length ≤ j := by
  have := flat_le (f := fun k => if k + 2 < ps.length then [G.t (.s h :: (ps.drop f).take (k + 2))] else []) (c := 1) (l := List.range j) fun k _ => by

    split <;> simp
  rw [List.length_range, Nat.one_mul] at this
  exact this
theorem nbAll_len {h : Str} {ps : List G} {i : Nat} (hp : ps.length ≤ 8) (hi : i ≤ 8) : (nbAll h ps i).length ≤ 64 := by
  have := flat_le (f := fun f => nbIn h ps f (ps.length - 1 - f)) (c := 8) (l := List.range i) fun k _ => by
    have := nbIn_len h ps k (ps.length - 1 - k)
    omega
  rw [List.length_range] at this
  unfold nbAll
  omega
theorem nbIn_shp {h : Str} {ps : List G} (hs : ∀ p ∈ ps, shp p = true) {f j : Nat} : ∀ g ∈ nbIn h ps f j, shp g = true := fun g hg => by
  obtain ⟨k, _, hk⟩ := List.mem_flatMap.mp hg
  split at hk
  · rw [List.mem_singleton.mp hk]
    exact shp_mk fun p hp => hs p (List.mem_of_mem_drop (List.mem_of_mem_take hp))
  · exact absurd hk (by simp)
theorem nbAll_shp {h : Str} {ps : List G} (hs : ∀ p ∈ ps, shp p = true) {i : Nat} : ∀ g ∈ nbAll h ps i, shp g = true := fun g hg => by
  obtain ⟨k, _, hk⟩ := List.mem_flatMap.mp hg
  exact nbIn_shp hs g hk
theorem range_snoc (f : Nat → List G) (i : Nat) : (List.range (i + 1)).flatMap f = (List.range i).flatMap f ++ f i := by
  rw [List.range_succ, List.flatMap_append]
  simp
section
variable {P : Program} {w : World} {K : PySem.W.Frag} {mg : Str → Option Value} {base : Heap}
abbrev nNb : List Str := ["term", "name", "parts", "spots", "first", "past"]
theorem scNb : FnScope nNb ["term"] (defScope sNb) := ⟨rfl, rfl, rfl, by decide +kernel, rfl, by decide +kernel, by decide +kernel⟩
theorem ok_nb {f : Addr} {fd : FuncData} (F : Fun K "neighbours" "neighbours" sNb f fd) (T : Ct mg) : FnOk P w K mg base C8.CX0 1 f fd ["term"] (spNb K) := by
  refine F.ok scNb (fun vs H Q E h => ?_) (fun cdv A outer s H vs Q E hr h => ?_)
  · obtain ⟨v, h, ps, rfl, _⟩ := h
    rfl
  · obtain ⟨v, h, ps, rfl, hin, hs, h8, k⟩ := h
    have ln : ∀ {i : Nat}, True := trivial
    refine ⟨_, pss_cons (ps_asg (pv 0) (pg_star rfl (pg_name (i := 1) scNb.nd rfl (Or.inl rfl)) (pg_name (i := 2) scNb.nd rfl (Or.inl rfl))))
      (pss_cons (ps_set (i := 3) scNb.nd rfl (Or.inl rfl) (pe_lst pa_nil))
      (pss_cons (ps_for PassesOwn.never rfl (pi_range1 rfl T.range (pa_cons (pe_callB call_len (by rfl) T.len PySem.boot_len (pa_cons (pv 2) pa_nil)) pa_nil)) (pg_name (i := 4) scNb.nd rfl (Or.inl rfl))
        (pss_one (ps_for PassesOwn.never rfl (pi_range2 rfl T.range (pa_cons (pe_op op_add (pv 4) pe_int) (pa_cons (pe_op op_add (pe_callB call_len (by rfl) T.len PySem.boot_len (pa_cons (pv 2) pa_nil)) pe_int) pa_nil))) (pg_name (i := 5) scNb.nd rfl (Or.inl rfl))
          (pss_one (ps_if (pt_cmpR op_lt (pe_op op_sub (pv 5) (pv 4)) (pe_callB call_len (by rfl) T.len PySem.boot_len (pa_cons (pv 2) pa_nil)) (nomark _))
            (pss_one (ps_expr (pe_bm PySem.F.plainAttrs_list PySem.F.slot_list_append PySem.F.type_list_append mt_append (pv 3) (pa_cons (pe_tup (pa_cons (pe_tup (pa_cons (pv 1) (StX.pa_star (pe_slice sl_list (pv 2) (po_some (pv 4)) (po_some (pv 5))) pa_nil)))
              (pa_cons (pe_tup (pa_cons (pe_tup (pa_cons (pv 1) (pa_cons (pe_slice sl_list (pv 2) po_none (po_some (pv 4))) (pa_cons (pe_slice sl_list (pv 2) (po_some (pv 5)) po_none) pa_nil)))) pa_nil)) pa_nil))) pa_nil)))) pss_nil)))))
      (pss_one (ps_ret (pv 3))))), ?_⟩
    obtain ⟨a, xs0, rfl, hx, hg⟩ := hin.tup
    obtain ⟨x0, xs, rfl, h0, hgt⟩ : ∃ x0 xs, xs0 = x0 :: xs ∧ In K H x0 (.s h) ∧ InL K H xs ps := by
      cases hg with
      | cons a b => exact ⟨_, _, rfl, a, b⟩
    obtain rfl := h0.str
    have hlen := hgt.len
    refine ⟨_, rfl, a, _, xs, rfl, hx, by omega, fun pl hpl => ?_⟩
    have s1 := Same.new (o := .lst xs) (Same.refl H) hpl
    refine ⟨(by show 0 ≤ sizeLine; decide), fun l hl => ?_⟩
    have s2 := s1.trans (Same.new (o := .lst []) (Same.refl _) hl)
    have npl : pl ≠ l := ne_of_none upd_same hl
    have lH : H l = none := by
      cases e : H l with
      | none => rfl
      | some o => rw [s1 _ _ e] at hl; cases hl
    have plH : H pl = none := hpl
    have sz8 : ∀ {a b : Nat}, a ≤ 100 → b ≤ 100 → a + b ≤ sizeLine := fun {a b} h1 h2 => by rw [sizeLine_eq]; omega
    refine ⟨_, rfl, .ref pl, xs.length, rfl, .inl ⟨xs, SqL.of (by rw [upd_ne npl]; exact upd_same), rfl⟩, _, rfl, by omega, by omega, ?_⟩
    rw [show (xs.length : Int).toNat = ps.length by omega]
    refine for_range (lo := 0) (n := ps.length) (fun i σ H' => ∃ (v4 v5 : Option V) (us : List V), σ = [some (.ref a), some (.str h), some (.ref pl), some (.ref l), v4, v5] ∧ Same H H' ∧ H' pl = some (.lst xs) ∧ H' l = some (.lst us) ∧ Spots K 1 H' us (nbAll h ps i))
      ⟨none, none, [], rfl, s2, by rw [upd_ne npl]; exact upd_same, upd_same, .nil⟩ ?_ ?_
    · rintro i σ Hx hi ⟨v4, v5, us, rfl, sx, ep, el, hu⟩
      refine ⟨_, rfl, _, _, rfl, rfl, _, rfl, .ref pl, xs.length, rfl, .inl ⟨xs, SqL.of ep, rfl⟩, _, _, rfl, rfl, _, _, rfl, ⟨by omega, by omega, by omega, by omega⟩, ?_⟩
      rw [show (((xs.length : Int) + 1) - ((0 + (i : Int)) + 2)).toNat = ps.length - 1 - i by omega]
      refine for_range (lo := 0 + (i : Int) + 2) (n := ps.length - 1 - i) (fun j σ H' => ∃ (v5 : Option V) (us : List V), σ = [some (.ref a), some (.str h), some (.ref pl), some (.ref l), some (.int (0 + i)), v5] ∧ Same H H' ∧ H' pl = some (.lst xs) ∧ H' l = some (.lst us) ∧ Spots K 1 H' us (nbAll h ps i ++ nbIn h ps i j))
        ⟨v5, us, rfl, sx, ep, el, by rw [show nbIn h ps i 0 = [] from rfl, List.append_nil]; exact hu⟩ ?_ ?_
      · rintro j σ Hy hj ⟨v5, us, rfl, sy, ep, el, hu⟩
        have hul : us.length ≤ 100 := by
          have h1 := hu.len
          have h2 := nbIn_len h ps i j
          have h3 := nbAll_len (h := h) (ps := ps) (i := i) h8 (by omega)
          rw [List.length_append] at h1
          omega
        refine ⟨_, rfl, _, rfl, _, _, rfl, rfl, _, rfl, .ref pl, xs.length, rfl, .inl ⟨xs, SqL.of ep, rfl⟩, _, _, rfl, rfl, _, rfl, ?_⟩
        refine ite2 (fun h1 => ?_) (fun h1 => ?_)
        · have hlt : j + 2 < ps.length := by
            have := of_decide_eq_true h1
            omega
          have e1 : (0 + (i : Int)) = ((i : Nat) : Int) := by omega
          have e2 : (0 + (i : Int) + 2 + (j : Int)) = ((i + 2 + j : Nat) : Int) := by omega
          have c1 : cutV xs (some (0 + (i : Int))) (some (0 + (i : Int) + 2 + (j : Int))) = (xs.drop i).take (j + 2) := by
            rw [e2, e1, cut_mid i (i + 2 + j) (by omega) (by omega), show i + 2 + j - i = j + 2 by omega]
          refine ⟨_, rfl, .inl ⟨rfl, _, SqL.of el⟩, _, rfl, _, rfl, _, rfl, _, rfl, _, rfl, _, rfl, pl, xs, rfl, SqL.of ep, fun q1 hq1 => ?_⟩
          have r1 := Same.new (o := .lst (cutV xs (some (0 + (i : Int))) (some (0 + (i : Int) + 2 + (j : Int))))) (Same.refl Hy) hq1
          refine ⟨q1, _, rfl, .inr (SqL.of upd_same), ?_, fun q2 hq2 => ?_⟩
          · rw [c1, sizeLine_eq]
            simp only [List.length_append, List.length_cons, List.length_nil, List.length_take]
            omega
          have r2 := Same.new (o := .tup (([.str h] : List V) ++ (cutV xs (some (0 + (i : Int))) (some (0 + (i : Int) + 2 + (j : Int))) ++ []))) r1 hq2
          have t2 := upd_same (H := upd Hy q1 (.lst (cutV xs (some (0 + (i : Int))) (some (0 + (i : Int) + 2 + (j : Int)))))) (a := q2) (o := .tup (([.str h] : List V) ++ (cutV xs (some (0 + (i : Int))) (some (0 + (i : Int) + 2 + (j : Int))) ++ [])))
          refine ⟨_, rfl, _, rfl, _, rfl, _, rfl, pl, xs, rfl, SqL.of (r2 _ _ ep), fun q3 hq3 => ?_⟩
          have r3 := Same.new (o := .lst (cutV xs none (some (0 + (i : Int))))) r2 hq3
          have t3 := Same.new (o := .lst (cutV xs none (some (0 + (i : Int))))) (Same.refl _) hq3 _ _ t2
          refine ⟨_, rfl, _, rfl, _, rfl, pl, xs, rfl, SqL.of (r3 _ _ ep), fun q4 hq4 => ?_⟩
          have r4 := Same.new (o := .lst (cutV xs (some (0 + (i : Int) + 2 + (j : Int))) none)) r3 hq4
          have t4 := Same.new (o := .lst (cutV xs (some (0 + (i : Int) + 2 + (j : Int))) none)) (Same.refl _) hq4 _ _ t3
          refine ⟨(by show 3 ≤ sizeLine; decide), fun q5 hq5 => ?_⟩
          have r5 := Same.new (o := .tup [.str h, .ref q3, .ref q4]) r4 hq5
          have t5 := Same.new (o := .tup [.str h, .ref q3, .ref q4]) (Same.refl _) hq5 _ _ t4
          refine ⟨(by show 1 ≤ sizeLine; decide), fun q6 hq6 => ?_⟩
          have r6 := Same.new (o := .tup [.ref q5]) r5 hq6
          have t6 := Same.new (o := .tup [.ref q5]) (Same.refl _) hq6 _ _ t5
          refine ⟨(by show 2 ≤ sizeLine; decide), fun q7 hq7 => ?_⟩
          have r7 := Same.new (o := .tup [.ref q2, .ref q6]) r6 hq7
          have t7 := Same.new (o := .tup [.ref q2, .ref q6]) (Same.refl _) hq7 _ _ t6
          have u7 := Same.new (o := .tup [.ref q2, .ref q6]) (Same.refl _) hq7 _ _ (upd_same (a := q6) (o := .tup [.ref q5]))
          have el7 := r7 _ _ el
          refine ⟨l, us, .ref q7, rfl, rfl, el7, by rw [sizeLine_eq]; omega, _, us ++ [.ref q7], rfl, ?_, ?_, upd_same, ?_⟩
          · exact fun b o e => by
              rw [upd_ne (ne_of_none e lH)]
              exact r7 _ _ (sy _ _ e)
          · rw [upd_ne npl]
            exact r7 _ _ ep
          · have e3 : nbIn h ps i (j + 1) = nbIn h ps i j ++ [.t (.s h :: (ps.drop i).take (j + 2))] := by
              unfold nbIn
              rw [range_snoc, if_pos hlt]
            rw [e3, ← List.append_assoc]
            refine ((Spots.tk (TupK.of (Ext.of r7)) (fun g hg => ?_) hu).app (.cons ⟨q7, q6, .ref q2, [.ref q5], rfl, SqT.of upd_same, SqT.of u7, by simp, .t (SqT.of t7) (.cons (.s h) (inL_nil (by have z := ((hgt.same (sy.trans r7)).drop i).take (j + 2); rw [← c1] at z; exact z)))⟩ .nil)).tk ((TupK.of (Ext.refl _)).off el7) fun g hg => ?_
            · rcases List.mem_append.mp hg with hg | hg
              · exact nbAll_shp hs g hg
              · exact nbIn_shp hs g hg
            · rcases List.mem_append.mp hg with hg | hg
              · rcases List.mem_append.mp hg with hg | hg
                · exact nbAll_shp hs g hg
                · exact nbIn_shp hs g hg
              · rw [List.mem_singleton.mp hg]
                exact shp_mk fun p hp => hs p (List.mem_of_mem_drop (List.mem_of_mem_take hp))
        · have hlt : ¬ (j + 2 < ps.length) := fun z => h1 (decide_eq_true (by omega))
          refine ⟨_, us, rfl, sy, ep, el, ?_⟩
          unfold nbIn at hu ⊢
          rw [range_snoc, if_neg hlt, List.append_nil]
          exact hu
      · rintro σ Hy ⟨v5, us, rfl, sy, ep, el, hu⟩
        refine ⟨_, _, us, rfl, sy, ep, el, ?_⟩
        unfold nbAll at hu ⊢
        rw [range_snoc]
        exact hu
    · rintro σ Hx ⟨v4, v5, us, rfl, sx, ep, el, hu⟩
      exact ⟨_, rfl, k Hx l us sx lH el hu⟩
end
end K1
set_option Elab.async false
set_option linter.all false
set_option maxRecDepth 100000
set_option maxHeartbeats 1000000
namespace K1
open PySem PySem.Spec PyProof.Rows L2
open PySem.W (EachIs)
/-! ### parts in runs of like ones, and the ways they are split -/
inductive Runs : List G → Prop
  | nil : Runs []
  | run (p : G) (n : Nat) (rest : List G) : p ∉ rest → Runs rest → Runs (List.replicate (n + 1) p ++ rest)
theorem runs_sorted (n : Nat) : ∀ ps : List G, ps.length ≤ n → (∀ g ∈ ps, gok g = true) → ps.Pairwise (fun x y => SrtF.leK text x y = true) → Runs ps := by
  induction n with
  | zero =>
    intro ps hl _ _
    rw [List.eq_nil_of_length_eq_zero (by omega : ps.length = 0)]
    exact .nil
  | succ n ih =>
    intro ps hl hg hp
    cases ps with
    | nil => exact .nil
    | cons p r =>
      obtain ⟨h1, h2⟩ := List.pairwise_cons.mp hp
      have e : r = List.replicate (r.takeWhile fun q => decide (q = p)).length p ++ r.dropWhile fun q => decide (q = p) := by
        have : List.replicate (r.takeWhile fun q => decide (q = p)).length p = r.takeWhile fun q => decide (q = p) := (List.eq_replicate_of_mem fun q hq => by
          have := List.all_eq_true.mp (List.all_takeWhile (p := fun q => decide (q = p)) (l := r)) q hq
          simpa using this).symm
        rw [this, List.takeWhile_append_dropWhile]
      have sub := List.dropWhile_sublist (l := r) fun q => decide (q = p)
      have hd : Runs (r.dropWhile fun q => decide (q = p)) := by
        refine ih _ ?_ (fun g hm => hg g (List.mem_cons_of_mem _ (sub.subset hm))) (h2.sublist sub)
        have := sub.length_le
        simp only [List.length_cons] at hl
        omega
      have hn : p ∉ r.dropWhile fun q => decide (q = p) := fun hm => by
        cases hb : r.dropWhile fun q => decide (q = p) with
        | nil => rw [hb] at hm; exact absurd hm (by simp)
        | cons b bs =>
          have hbp : ¬ b = p := by
            have := List.head_dropWhile_not (fun q => decide (q = p)) (by rw [hb]; simp : r.dropWhile (fun q => decide (q = p)) ≠ [])
            simp only [hb, List.head_cons] at this
            simpa using this
          have hbm : b ∈ r := sub.subset (by rw [hb]; exact List.mem_cons_self)
          have k1 := h1 b hbm
          have k2 : SrtF.leK text b p = true := by
            rw [hb] at hm
            rcases List.mem_cons.mp hm with z | z
            · exact absurd z.symm hbp
            · have := h2.sublist sub
              rw [hb] at this
              exact (List.pairwise_cons.mp this).1 p z
          rw [leK_is] at k1 k2
          exact hbp (text_inj (hg b (List.mem_cons_of_mem _ hbm)) (hg p List.mem_cons_self) (ext_l (List.le_antisymm (of_decide_eq_true k2) (of_decide_eq_true k1))))
      have := Runs.run p (r.takeWhile fun q => decide (q = p)).length _ hn hd
      rw [List.replicate_succ, List.cons_append, ← e] at this
      exact this
/-- the ways a row is split, as far as it is gone -/
def stepW (ws : List (List G × List G)) (like : List G) : List (List G × List G) := ws.flatMap fun w => (List.range (like.length + 1)).map fun k => (w.1 ++ like.take k, w.2 ++ like.drop k)
/-- what is true of the ways of these parts -/
structure WaysOf (ps : List G) (ws : List (List G × List G)) : Prop where
  mem : ∀ o, (∃ w ∈ ws, w.1 = o) ↔ o.Sublist ps
  len : ∀ w ∈ ws, w.1.length + w.2.length = ps.length
  snd : ∀ w ∈ ws, ∀ q ∈ w.2, q ∈ ps
  few : ws.length ≤ 2 ^ ps.length
theorem ways_nil : WaysOf [] [([], [])] := by
  refine ⟨fun o => ?_, fun w hw => ?_, fun w hw q hq => ?_, by simp⟩
  · rw [List.sublist_nil]
    constructor
    · rintro ⟨w, hw, rfl⟩
      rw [List.mem_singleton.mp hw]
    · rintro rfl
      exact ⟨_, List.mem_singleton.mpr rfl, rfl⟩
  · rw [List.mem_singleton.mp hw]; rfl
  · rw [List.mem_singleton.mp hw] at hq; exact absurd hq (by simp)
theorem two_pow (n : Nat) : n + 1 ≤ 2 ^ n := Nat.lt_two_pow_self
theorem ways_step {ps : List G} {ws : List (List G × List G)} (h : WaysOf ps ws) (p : G) (n : Nat) : WaysOf (ps ++ List.replicate n p) (stepW ws (List.replicate n p)) := by
  have mem : ∀ w, w ∈ stepW ws (List.replicate n p) ↔ ∃ v ∈ ws, ∃ k, k ≤ n ∧ w = (v.1 ++ (List.replicate n p).take k, v.2 ++ (List.replicate n p).drop k) := fun w => by
    unfold stepW
    rw [List.mem_flatMap]
    constructor
    · rintro ⟨v, hv, hw⟩
      obtain ⟨k, hk, rfl⟩ := List.mem_map.mp hw
      rw [List.length_replicate] at hk
      exact ⟨v, hv, k, by have := List.mem_range.mp hk; omega, rfl⟩
    · rintro ⟨v, hv, k, hk, rfl⟩
      exact ⟨v, hv, List.mem_map.mpr ⟨k, List.mem_range.mpr (by rw [List.length_replicate]; omega), rfl⟩⟩
  refine ⟨fun o => ?_, fun w hw => ?_, fun w hw q hq => ?_, ?_⟩
  · constructor
    · rintro ⟨w, hw, rfl⟩
      obtain ⟨v, hv, k, hk, rfl⟩ := (mem w).mp hw
      exact ((h.mem v.1).mp ⟨v, hv, rfl⟩).append (List.take_sublist _ _)
    · intro ho
      obtain ⟨a, b, rfl, ha, hb⟩ := List.sublist_append_iff.mp ho
      obtain ⟨v, hv, rfl⟩ := (h.mem a).mpr ha
      obtain ⟨k, hk, rfl⟩ := List.sublist_replicate_iff.mp hb
      refine ⟨_, (mem _).mpr ⟨v, hv, k, hk, rfl⟩, ?_⟩
      rw [List.take_replicate, Nat.min_eq_left hk]
  · obtain ⟨v, hv, k, hk, rfl⟩ := (mem w).mp hw
    have := h.len v hv
    simp only [List.length_append, List.length_take, List.length_drop, List.length_replicate]
    omega
  · obtain ⟨v, hv, k, hk, rfl⟩ := (mem w).mp hw
    rcases List.mem_append.mp hq with hq | hq
    · exact List.mem_append_left _ (h.snd v hv q hq)
    · exact List.mem_append_right _ (List.mem_of_mem_drop hq)
  · have h1 : (stepW ws (List.replicate n p)).length = ws.length * (n + 1) := by
      unfold stepW
      rw [List.length_flatMap]
      simp only [List.length_map, List.length_range, List.length_replicate]
      rw [List.map_const', List.sum_replicate_nat]
    rw [h1, List.length_append, List.length_replicate, Nat.pow_add]
    exact Nat.mul_le_mul h.few (two_pow n)
end K1
set_option Elab.async false
set_option linter.all false
set_option maxRecDepth 100000
set_option maxHeartbeats 2000000
namespace K1
open PySem PySem.Spec PyProof.Rows L2
open PySem.W (EachIs)
abbrev sSplits : Stmt := topS 38
/-! ### comprehensions of two fors -/
section
variable {J : It} {n : Nat} {G : Hp → Prop} {Y : Nat → Hp → V → Hp → Prop}
theorem lc2_it (w : Walk J n G Y) {g : TG} {tt : TT} {Bd : (Hp → Prop) → L2.St → Hp → Prop} {vs : List Nat} {σ : L2.St} {H1 : Hp} {D : Addr} {Qd : Hp → Prop} (Pv : Nat → Hp → Prop) (h0 : Pv 0 (upd H1 D (.lst []))) (hG : ∀ i H, i ≤ n → Pv i H → G H)
    (hs : ∀ i x H H', i < n → Pv i H → Y i H x H' → g x (wipe σ vs) H' fun σ2 H2 => wipe σ2 vs = wipe σ vs ∧ tt σ2 H2 fun b H3 => if b = true then Bd (Pv (i + 1)) σ2 H3 else Pv (i + 1) H3) (hd : ∀ H, Pv n H → Qd H) :
    ∃ W : Nat → Nat → Hp → Prop, (∃ m, W 0 m (upd H1 D (.lst []))) ∧ ∀ i m H, W i m H →
      (J.stop i H ∧ Qd H) ∨ (J.go i H ∧ ∃ Nx : Hp → Prop, (∀ H', Nx H' → ∃ m', m' < m ∧ W (i + 1) m' H') ∧ ∀ x H', J.yld i H x H' → g x (wipe σ vs) H' fun σ2 H2 => wipe σ2 vs = wipe σ vs ∧ tt σ2 H2 fun b H3 => if b = true then Bd Nx σ2 H3 else Nx H3) := by
  refine ⟨fun i m H => m = n - i ∧ i ≤ n ∧ Pv i H, ⟨n, by simp, Nat.zero_le _, h0⟩, ?_⟩
  rintro i m H ⟨rfl, hi, p⟩
  have q := hG i H hi p
  by_cases hlt : i < n
  · exact .inr ⟨w.goes i H hlt q, Pv (i + 1), fun H' p' => ⟨n - (i + 1), by omega, rfl, hlt, p'⟩, fun x H' y => hs i x H H' hlt p (w.yields i H x H' hlt q y)⟩
  · have e : i = n := by omega
    subst e
    exact .inl ⟨w.stops H q, hd H p⟩
theorem in_it (w : Walk J n G Y) {g : TG} {tt : TT} {te : TE} {vs : List Nat} {σ : L2.St} {H1 : Hp} {D : Addr} {Nx : Hp → Prop} (Pv : Nat → Hp → Prop) (h0 : Pv 0 H1) (hG : ∀ i H, i ≤ n → Pv i H → G H)
    (hs : ∀ i x H H', i < n → Pv i H → Y i H x H' → g x (wipe σ vs) H' fun σ2 H2 => wipe σ2 vs = wipe σ vs ∧ tt σ2 H2 fun b H3 =>
      if b = true then te σ2 H3 fun y H4 => ∃ acc, H4 D = some (.lst acc) ∧ acc.length < sizeLine ∧ Pv (i + 1) (upd H4 D (.lst (acc ++ [y]))) else Pv (i + 1) H3) (hd : ∀ H, Pv n H → Nx H) :
    ∃ W : Nat → Nat → Hp → Prop, (∃ m, W 0 m H1) ∧ ∀ i m H, W i m H →
      (J.stop i H ∧ Nx H) ∨ (J.go i H ∧ ∃ N : Hp → Prop, (∀ H', N H' → ∃ m', m' < m ∧ W (i + 1) m' H') ∧ ∀ x H', J.yld i H x H' → g x (wipe σ vs) H' fun σ2 H2 => wipe σ2 vs = wipe σ vs ∧ tt σ2 H2 fun b H3 =>
        if b = true then te σ2 H3 fun y H4 => ∃ acc, H4 D = some (.lst acc) ∧ acc.length < sizeLine ∧ N (upd H4 D (.lst (acc ++ [y]))) else N H3) := by
  refine ⟨fun i m H => m = n - i ∧ i ≤ n ∧ Pv i H, ⟨n, by simp, Nat.zero_le _, h0⟩, ?_⟩
  rintro i m H ⟨rfl, hi, p⟩
  have q := hG i H hi p
  by_cases hlt : i < n
  · exact .inr ⟨w.goes i H hlt q, Pv (i + 1), fun H' p' => ⟨n - (i + 1), by omega, rfl, hlt, p'⟩, fun x H' y => hs i x H H' hlt p (w.yields i H x H' hlt q y)⟩
  · have e : i = n := by omega
    subst e
    exact .inl ⟨w.stops H q, hd H p⟩
end
theorem plainAll_of : ∀ {gs : List G}, (∀ g ∈ gs, (toD g).plain = true) → PyData.plainAll (gs.map toD) = true
  | [], _ => rfl
  | g :: gs, h => by
    rw [List.map_cons]
    simp only [PyData.plainAll, Bool.and_eq_true]
    exact ⟨h g List.mem_cons_self, plainAll_of fun x hx => h x (List.mem_cons_of_mem _ hx)⟩
/-- a way: a pair of two lists -/
def WayV (K : PySem.W.Frag) (H : Hp) (v : V) (wy : List G × List G) : Prop := ∃ (q a b : Addr) (xs ys : List V), v = .ref q ∧ SqT K H q [.ref a, .ref b] ∧ H a = some (.lst xs) ∧ H b = some (.lst ys) ∧ InL K H xs wy.1 ∧ InL K H ys wy.2 ∧ (∀ g ∈ wy.1, shp g = true) ∧ (∀ g ∈ wy.2, shp g = true)
def Ways (K : PySem.W.Frag) (H : Hp) (vs : List V) (ws : List (List G × List G)) : Prop := EachIs (WayV K H) vs ws
theorem WayV.same {K : PySem.W.Frag} {H H' : Hp} {v : V} {wy : List G × List G} (s : Same H H') (h : WayV K H v wy) : WayV K H' v wy := by
  obtain ⟨q, a, b, xs, ys, rfl, h1, h2, h3, h4, h5, h6⟩ := h
  exact ⟨q, a, b, xs, ys, rfl, sqt_same s h1, s _ _ h2, s _ _ h3, h4.same s, h5.same s, h6⟩
/-- a way whose lists are none of D -/
def WayD (K : PySem.W.Frag) (D : Addr) (H : Hp) (v : V) (wy : List G × List G) : Prop := ∃ (q a b : Addr) (xs ys : List V), v = .ref q ∧ SqT K H q [.ref a, .ref b] ∧ H a = some (.lst xs) ∧ H b = some (.lst ys) ∧ InL K H xs wy.1 ∧ InL K H ys wy.2 ∧ (∀ g ∈ wy.1, shp g = true) ∧ (∀ g ∈ wy.2, shp g = true) ∧ a ≠ D ∧ b ≠ D
theorem WayD.v {K : PySem.W.Frag} {D : Addr} {H : Hp} {v : V} {wy : List G × List G} (h : WayD K D H v wy) : WayV K H v wy := by
  obtain ⟨q, a, b, xs, ys, rfl, h1, h2, h3, h4, h5, h6, h7, _⟩ := h
  exact ⟨q, a, b, xs, ys, rfl, h1, h2, h3, h4, h5, h6, h7⟩
theorem WayD.same {K : PySem.W.Frag} {D : Addr} {H H' : Hp} {v : V} {wy : List G × List G} (s : Same H H') (h : WayD K D H v wy) : WayD K D H' v wy := by
  obtain ⟨q, a, b, xs, ys, rfl, h1, h2, h3, h4, h5, h6⟩ := h
  exact ⟨q, a, b, xs, ys, rfl, sqt_same s h1, s _ _ h2, s _ _ h3, h4.same s, h5.same s, h6⟩
theorem WayD.off {K : PySem.W.Frag} {D : Addr} {H : Hp} {v : V} {wy : List G × List G} {zs zs' : List V} (e : H D = some (.lst zs)) (h : WayD K D H v wy) : WayD K D (upd H D (.lst zs')) v wy := by
  obtain ⟨q, a, b, xs, ys, rfl, h1, h2, h3, h4, h5, h6, h7, h8, h9⟩ := h
  have tk : TupK H (upd H D (.lst zs')) := (TupK.of (Ext.refl _)).off e
  exact ⟨q, a, b, xs, ys, rfl, tk.sqt h1, by rw [upd_ne h8]; exact h2, by rw [upd_ne h9]; exact h3, inL_tk tk _ _ h6 h4, inL_tk tk _ _ h7 h5, h6, h7, h8, h9⟩
theorem each_mono {α β : Type} {R R' : α → β → Prop} (f : ∀ a b, R a b → R' a b) : ∀ {as : List α} {bs : List β}, EachIs R as bs → EachIs R' as bs
  | _, _, .nil => .nil
  | _, _, .cons h t => .cons (f _ _ h) (each_mono f t)
theorem Ways.same {K : PySem.W.Frag} {H H' : Hp} (s : Same H H') : ∀ {vs : List V} {ws : List (List G × List G)}, Ways K H vs ws → Ways K H' vs ws
  | _, _, .nil => .nil
  | _, _, .cons h r => .cons (h.same s) (Ways.same s r)
theorem Ways.len {K : PySem.W.Frag} {H : Hp} {vs : List V} {ws : List (List G × List G)} (h : Ways K H vs ws) : vs.length = ws.length := each_len h
def spSplits (K : PySem.W.Frag) : Sp := fun vs H Q _ => ∃ (p : Addr) (xs : List V) (ps : List G), vs = [.ref p] ∧ H p = some (.lst xs) ∧ InL K H xs ps ∧ (∀ q ∈ ps, shp q = true ∧ fine q = true ∧ dp q ≤ 60) ∧ Runs ps ∧ ps.length ≤ 8 ∧
  ∀ H' l us ws, Same H H' → H' l = some (.lst us) → Ways K H' us ws → WaysOf ps ws → Q (.ref l) H'
def SplI (K : PySem.W.Frag) (H : Hp) (p : Addr) (ps : List G) : Nat → L2.St → Hp → Prop := fun m σ H' => ∃ (l : Addr) (us : List V) (ws : List (List G × List G)) (pre suf : List G) (v3 v4 v5 v6 v7 : Option V), m = suf.length ∧ σ = [some (.ref p), some (.ref l), some (.int pre.length), v3, v4, v5, v6, v7] ∧ ps = pre ++ suf ∧ Runs suf ∧ (∀ x ∈ suf, x ∉ pre) ∧ Same H H' ∧ H' l = some (.lst us) ∧ Ways K H' us ws ∧ WaysOf pre ws
section
variable {P : Program} {w : World} {K : PySem.W.Frag} {mg : Str → Option Value} {base : Heap}
abbrev nSplits : List Str := ["parts", "ways", "at", "times", "like", "one", "other", "k"]
theorem scSplits : FnScope nSplits ["parts"] (defScope sSplits) := ⟨rfl, rfl, rfl, by decide +kernel, rfl, by decide +kernel, by decide +kernel⟩
theorem ok_splits {f : Addr} {fd : FuncData} (F : Fun K "splits" "splits" sSplits f fd) (T : Ct mg) : FnOk P w K mg base C8.CX0 1 f fd ["parts"] (spSplits K) := by
  refine F.ok scSplits (fun vs H Q E h => ?_) (fun cdv A outer s H vs Q E hr h => ?_)
  · obtain ⟨p, xs, ps, rfl, _⟩ := h
    rfl
  · obtain ⟨p, xs, ps, rfl, hp, hin, hps, hR, h8, k⟩ := h
    refine ⟨_, pss_cons (ps_set (i := 1) scSplits.nd rfl (by first | exact Or.inl rfl | exact Or.inr rfl) (pe_lst (pa_cons (pe_tup (pa_cons (pe_lst pa_nil) (pa_cons (pe_lst pa_nil) pa_nil))) pa_nil)))
      (pss_cons (ps_set (i := 2) scSplits.nd rfl (by first | exact Or.inl rfl | exact Or.inr rfl) pe_int)
      (pss_cons (ps_while PassesOwn.never (pt_cmpR op_lt (pv 2) (pe_callB call_len (by rfl) T.len PySem.boot_len (pa_cons (pv 0) pa_nil)) (nomark _))
        (pss_cons (ps_set (i := 3) scSplits.nd rfl (by first | exact Or.inl rfl | exact Or.inr rfl) (pe_bm PySem.F.plainAttrs_list PySem.F.slot_list_count PySem.F.type_list_count (mt_countD hr.units) (pv 0) (pa_cons (pe_ix ix_list (pv 0) (pv 2) (fun _ _ => rfl)) pa_nil)))
        (pss_cons (ps_set (i := 4) scSplits.nd rfl (by first | exact Or.inl rfl | exact Or.inr rfl) (pe_slice sl_list (pv 0) (po_some (pv 2)) (po_some (pe_op op_add (pv 2) (pv 3)))))
        (pss_cons (ps_setLc2 (i := 1) (own := [("one", 5), ("other", 6), ("k", 7)]) (vs1 := [7]) (g := gTup K 2 (gCons (gName 5) (gCons (gName 6) gNil))) (tt := tYes) (g1 := gName 7) (tt1 := tYes) rfl scSplits.nd rfl rfl (sw_true rfl rfl rfl (by decide +kernel)) (pi_list (pv 1)) (blkOk_by (N := nSplits) (sc := defScope sSplits) (by decide +kernel)) (by decide)
            (fun _ _ _ _ _ => pg_tup rfl (pgs_cons (pg_name (i := 5) scSplits.nd rfl (by first | exact Or.inl rfl | exact Or.inr rfl)) (pgs_cons (pg_name (i := 6) scSplits.nd rfl (by first | exact Or.inl rfl | exact Or.inr rfl)) pgs_nil))) (fun _ _ _ _ _ => pts_nil)
            (fun _ _ _ _ _ => pi_range1 rfl T.range (pa_cons (pe_op op_add (pv 3) pe_int) pa_nil)) (fun _ _ _ _ _ => pg_name (i := 7) scSplits.nd rfl (by first | exact Or.inl rfl | exact Or.inr rfl)) (fun _ _ _ _ _ => pts_nil)
            (fun _ _ _ _ _ => pe_tup (pa_cons (pe_op op_cat (pv 5) (pe_slice (show SlR _ (rSlL K) from sl_list) (pv 4) po_none (po_some (pv 7)))) (pa_cons (pe_op op_cat (pv 6) (pe_slice (show SlR _ (rSlL K) from sl_list) (pv 4) (po_some (pv 7)) po_none)) pa_nil))))
        (pss_one (ps_aug (i := 2) scSplits.nd rfl (by first | exact Or.inl rfl | exact Or.inr rfl) (pv 3) ip_add))))))
      (pss_one (ps_ret (pv 1))))), ?_⟩
    have hxl := hin.len
    refine ⟨(by show 0 ≤ sizeLine; decide), fun a1 ha1 => ⟨(by show 0 ≤ sizeLine; decide), fun a2 ha2 => ⟨(by show 2 ≤ sizeLine; decide), fun t ht => ⟨(by show 1 ≤ sizeLine; decide), fun l hl => ?_⟩⟩⟩⟩
    have r1 := Same.new (o := .lst []) (Same.refl H) ha1
    have r2 := Same.new (o := .lst []) (Same.refl _) ha2
    have r3 := Same.new (o := .tup [.ref a1, .ref a2]) (Same.refl _) ht
    have r4 := Same.new (o := .lst [.ref t]) (Same.refl _) hl
    have e1 := r4 _ _ (r3 _ _ (r2 _ _ (upd_same (H := H) (a := a1) (o := .lst []))))
    have e2 := r4 _ _ (r3 _ _ (upd_same (a := a2) (o := .lst [])))
    have e3 := r4 _ _ (upd_same (a := t) (o := .tup [.ref a1, .ref a2]))
    have w0 : Ways K _ [.ref t] [([], [])] := .cons ⟨t, a1, a2, [], [], rfl, SqT.of e3, e1, e2, .nil, .nil, fun _ z => absurd z (by simp), fun _ z => absurd z (by simp)⟩ .nil
    have dps : DpAll K H xs (ps.map toD) := dp_all0 _ _ (fun g hg v hv => in_dp g v (hps g hg).1 hv) hin
    have plD : ∀ g ∈ ps, (toD g).plain = true := fun g hg => by
      have := (toD_ok _ g (Nat.le_refl _) (hps g hg).1 (hps g hg).2.1).1
      exact PyData.plain_of_canLay0 _ this
    have plA : PyData.plainAll (ps.map toD) = true := plainAll_of plD
    refine ⟨SplI K H p ps,
      ⟨_, l, [.ref t], _, [], ps, none, none, none, none, none, rfl, rfl, rfl, hR, fun _ _ z => absurd z (by simp), ((r1.trans r2).trans r3).trans r4, upd_same, w0, ways_nil⟩, ?_⟩
    rintro m σ Hx ⟨l, us, ws, pre, suf, v3, v4, v5, v6, v7, rfl, rfl, eps, hR, hno, sx, el, hw, hW⟩
    have epx := sx _ _ hp
    refine ⟨_, rfl, _, rfl, .ref p, xs.length, rfl, .inl ⟨xs, SqL.of epx, rfl⟩, _, _, rfl, rfl, _, rfl, ?_⟩
    have hlen : ps.length = pre.length + suf.length := by rw [eps, List.length_append]
    cases hR with
    | nil =>
      refine iteF_ (by rw [hxl, hlen]; simp) ?_
      rw [List.append_nil] at eps
      subst eps
      exact ⟨_, rfl, k Hx l us ws sx el hw hW⟩
    | run q n rest hq hR =>
      refine iteT_ (by rw [hxl, hlen]; simp; omega) ?_
      have hqs : q ∈ ps := by rw [eps]; exact List.mem_append_right _ (List.mem_append_left _ (by simp))
      obtain ⟨sq, fq, dq⟩ := hps q hqs
      have hrl : (List.replicate (n + 1) q ++ rest).length = n + 1 + rest.length := by rw [List.length_append, List.length_replicate]
      have hat : ps[pre.length]? = some q := by
        rw [eps, List.getElem?_append_right (Nat.le_refl _), Nat.sub_self]
        rfl
      obtain ⟨x, hx, hxin⟩ : ∃ x, xs[pre.length]? = some x ∧ In K H x q := hin.get hat
      have hcnt : (ps.map toD).countP (fun z => PyData.eqv z (toD q)) = n + 1 := by
        rw [List.countP_map]
        have e : ∀ gs : List G, (∀ g ∈ gs, shp g = true) → gs.countP ((fun z => PyData.eqv z (toD q)) ∘ toD) = gs.countP fun g => decide (g = q) := fun gs hg => List.countP_congr fun g hm => by
          show PyData.eqv (toD g) (toD q) = true ↔ _
          rw [eqv_toD _ g q (Nat.le_refl _) (hg g hm) sq]
        rw [e ps fun g hg => (hps g hg).1, eps, List.countP_append, List.countP_append]
        have c1 : pre.countP (fun g => decide (g = q)) = 0 := List.countP_eq_zero.mpr fun g hg z => by
          have z' : g = q := by simpa using z
          exact hno q (List.mem_append_left _ (by simp)) (z' ▸ hg)
        have c2 : rest.countP (fun g => decide (g = q)) = 0 := List.countP_eq_zero.mpr fun g hg z => by
          have z' : g = q := by simpa using z
          exact hq (z' ▸ hg)
        have c3 : (List.replicate (n + 1) q).countP (fun g => decide (g = q)) = n + 1 := by rw [List.countP_replicate]; simp
        omega
      refine ⟨SplI K H p ps rest.length, fun σ' H' h => ⟨_, by rw [hrl]; omega, h⟩, ?_⟩
      refine ⟨_, rfl, .inl ⟨rfl, _, SqL.of epx⟩, _, rfl, _, rfl, p, xs, (pre.length : Int), x, rfl, rfl, SqL.of epx, atI_nat hx, p, xs, x, ps.map toD, toD q, rfl, rfl, SqL.of epx, dp_all0 _ _ (fun g hg v hv => in_dp g v (hps g hg).1 hv) (hin.same sx), in_dp q x sq (hxin.same sx), plA, plD q hqs, by
        have := (toD_ok _ q (Nat.le_refl _) sq fq).2
        omega, ?_⟩
      rw [hcnt]
      refine ⟨_, rfl, _, rfl, _, rfl, _, rfl, _, rfl, _, _, rfl, rfl, _, rfl, p, xs, rfl, SqL.of epx, fun lk hlk => ?_⟩
      have r5 := Same.new (o := .lst (cutV xs (some (pre.length : Int)) (some ((pre.length : Int) + ((n + 1 : Nat) : Int))))) (Same.refl Hx) hlk
      have clk : cutV xs (some (pre.length : Int)) (some ((pre.length : Int) + ((n + 1 : Nat) : Int))) = (xs.drop pre.length).take (n + 1) := by
        rw [show (pre.length : Int) + ((n + 1 : Nat) : Int) = ((pre.length + (n + 1) : Nat) : Int) by omega, cut_mid _ _ (by omega) (by rw [hxl, hlen, hrl]; omega)]
        congr 1
        omega
      have elk := upd_same (H := Hx) (a := lk) (o := .lst (cutV xs (some (pre.length : Int)) (some ((pre.length : Int) + ((n + 1 : Nat) : Int)))))
      rw [clk] at elk r5 ⊢
      have elike : (ps.drop pre.length).take (n + 1) = List.replicate (n + 1) q := by
        rw [eps, List.drop_left, List.take_left' (by rw [List.length_replicate])]
      have ilk : InL K (upd Hx lk (.lst ((xs.drop pre.length).take (n + 1)))) ((xs.drop pre.length).take (n + 1)) (List.replicate (n + 1) q) := by
        have := ((hin.same (sx.trans r5)).drop pre.length).take (n + 1)
        rw [elike] at this
        exact this
      generalize hlv : (xs.drop pre.length).take (n + 1) = lv at elk r5 ilk ⊢
      have lvl : lv.length = n + 1 := by rw [ilk.len, List.length_replicate]
      have hw4 := hw.same r5
      have el4 := r5 _ _ el
      generalize upd Hx lk (.lst lv) = H4 at elk r5 ilk hw4 el4 ⊢
      have s4 := sx.trans r5
      generalize hlike : List.replicate (n + 1) q = like at ilk ⊢
      have lkl : like.length = n + 1 := by rw [← hlike, List.length_replicate]
      refine ⟨_, rfl, l, rfl, ⟨us, SqL.of el4⟩, fun D hD => ?_⟩
      have hul := hw4.len
      refine lc2_it walk_list (fun i H' => Same H4 H' ∧ ∃ ys, H' D = some (.lst ys) ∧ EachIs (WayD K D H') ys (stepW (ws.take i) like))
        ⟨Same.new (Same.refl _) hD, [], upd_same, .nil⟩ (fun i H' _ h => SqL.of (h.1 _ _ el4)) ?_ ?_
      · rintro i y Hy Hz hi ⟨sy, ys, eD, hys⟩ ⟨rfl, hy⟩
        obtain ⟨wy, hwy, q0, a, b, as, bs, rfl, t1, t2, t3, t4, t5, t6, t7⟩ := K1.each_at hw4 hy
        have sy' := sy
        refine ⟨q0, _, rfl, sqt_same sy' t1, rfl, _, _, rfl, _, _, rfl, rfl, rfl, ?_⟩
        have hi' : i < ws.length := by omega
        have wlen : ∀ m, (stepW (ws.take m) like).length ≤ 20000 := fun m => by
          have h1 : (stepW (ws.take m) like).length = (ws.take m).length * (like.length + 1) := by
            unfold stepW
            rw [List.length_flatMap]
            simp only [List.length_map, List.length_range]
            rw [List.map_const', List.sum_replicate_nat]
          have h2 := hW.few
          have h3 : (2 : Nat) ^ pre.length ≤ 2 ^ 8 := Nat.pow_le_pow_right (by decide) (by omega)
          have h4 : (ws.take m).length ≤ 256 := by rw [List.length_take]; omega
          have h5 : (ws.take m).length * (like.length + 1) ≤ 256 * 9 := Nat.mul_le_mul h4 (by omega)
          omega
        refine ⟨_, rfl, _, _, rfl, rfl, _, rfl, by omega, by omega, ?_⟩
        rw [show (((n + 1 : Nat) : Int) + 1).toNat = n + 2 by omega]
        refine in_it walk_range (fun j H' => Same H4 H' ∧ ∃ ys, H' D = some (.lst ys) ∧ EachIs (WayD K D H') ys (stepW (ws.take i) like ++ (List.range j).map fun k => (wy.1 ++ like.take k, wy.2 ++ like.drop k)))
          ⟨sy, ys, eD, by rw [show ((List.range 0).map fun k => (wy.1 ++ like.take k, wy.2 ++ like.drop k)) = [] from rfl, List.append_nil]; exact hys⟩ (fun _ _ _ _ => trivial) ?_ ?_
        · rintro j z Hu Hv hj ⟨su, zs, eD, hzs⟩ ⟨rfl, rfl⟩
          have ej : (0 + (j : Int)) = ((j : Nat) : Int) := by omega
          have c1 : cutV lv none (some (0 + (j : Int))) = lv.take j := by rw [ej, cut_to j (by omega)]
          have c2 : cutV lv (some (0 + (j : Int))) none = lv.drop j := by rw [ej, cut_fr j (by omega)]
          have la : as.length ≤ 8 ∧ bs.length ≤ 8 := by
            have h1 := hW.len wy (List.mem_of_getElem? hwy)
            have h2 := t4.len
            have h3 := t5.len
            omega
          refine ⟨rfl, _, rfl, _, rfl, _, rfl, _, rfl, lk, lv, rfl, SqL.of (su _ _ elk), fun q1 h1 => ?_⟩
          rw [c1]
          have m1 := Same.new (o := .lst (lv.take j)) (Same.refl Hv) h1
          refine ⟨a, q1, as, _, rfl, rfl, m1 _ _ (su _ _ t2), upd_same, by rw [sizeLine_eq, List.length_take]; omega, fun q2 h2 => ?_⟩
          have m2 := m1.trans (Same.new (o := .lst (as ++ lv.take j)) (Same.refl _) h2)
          have f2 := upd_same (H := upd Hv q1 (.lst (lv.take j))) (a := q2) (o := .lst (as ++ lv.take j))
          refine ⟨_, rfl, _, rfl, _, rfl, _, rfl, lk, lv, rfl, SqL.of (m2 _ _ (su _ _ elk)), fun q3 h3 => ?_⟩
          rw [c2]
          have m3 := m2.trans (Same.new (o := .lst (lv.drop j)) (Same.refl _) h3)
          have f3 := Same.new (o := .lst (lv.drop j)) (Same.refl _) h3 _ _ f2
          refine ⟨b, q3, bs, _, rfl, rfl, m3 _ _ (su _ _ t3), upd_same, by rw [sizeLine_eq, List.length_drop]; omega, fun q4 h4 => ⟨(by show 2 ≤ sizeLine; decide), fun q5 h5 => ?_⟩⟩
          have m4 := m3.trans (Same.new (o := .lst (bs ++ lv.drop j)) (Same.refl _) h4)
          have f4 := Same.new (o := .lst (bs ++ lv.drop j)) (Same.refl _) h4 _ _ f3
          have g4 := upd_same (H := upd (upd (upd Hv q1 (.lst (lv.take j))) q2 (.lst (as ++ lv.take j))) q3 (.lst (lv.drop j))) (a := q4) (o := .lst (bs ++ lv.drop j))
          have m5 := m4.trans (Same.new (o := .tup [.ref q2, .ref q4]) (Same.refl _) h5)
          have f5 := Same.new (o := .tup [.ref q2, .ref q4]) (Same.refl _) h5 _ _ f4
          have g5 := Same.new (o := .tup [.ref q2, .ref q4]) (Same.refl _) h5 _ _ g4
          have eD5 := m5 _ _ eD
          have zl : zs.length ≤ 40000 := by
            have h1 := each_len hzs
            have h2 := wlen i
            rw [List.length_append, List.length_map, List.length_range] at h1
            omega
          refine ⟨zs, eD5, by rw [sizeLine_eq]; omega, fun bb o e => ?_, zs ++ [.ref q5], upd_same, ?_⟩
          · rw [upd_ne (ne_of_none e hD)]
            exact m5 _ _ (su _ _ e)
          · have h45 := su.trans m5
            have shl : ∀ g ∈ like, shp g = true := fun g hg => by
              rw [← hlike] at hg
              rw [List.eq_of_mem_replicate hg]
              exact sq
            have n2 : q2 ≠ D := fun z => by
              have := m1 _ _ eD
              rw [← z, h2] at this
              cases this
            have n4 : q4 ≠ D := fun z => by
              have := m3 _ _ eD
              rw [← z, h4] at this
              cases this
            have new : WayD K D _ (.ref q5) (wy.1 ++ like.take j, wy.2 ++ like.drop j) := ⟨q5, q2, q4, _, _, rfl, SqT.of upd_same, f5, g5, (t4.same h45).app ((ilk.same h45).take j), (t5.same h45).app ((ilk.same h45).drop j),
              fun g hg => (List.mem_append.mp hg).elim (t6 g) fun z => shl g (List.mem_of_mem_take z), fun g hg => (List.mem_append.mp hg).elim (t7 g) fun z => shl g (List.mem_of_mem_drop z), n2, n4⟩
            rw [List.range_succ, List.map_append, ← List.append_assoc]
            exact each_app (R := WayD K D _) (new.off eD5) (each_mono (fun v w h => (WayD.same m5 h).off eD5) hzs)
        · rintro Hu ⟨su, zs, eD, hzs⟩
          refine ⟨su, zs, eD, ?_⟩
          have e : stepW (ws.take (i + 1)) like = stepW (ws.take i) like ++ (List.range (n + 2)).map fun k => (wy.1 ++ like.take k, wy.2 ++ like.drop k) := by
            rw [take_snoc hwy]
            unfold stepW
            rw [List.flatMap_append, List.flatMap_cons, List.flatMap_nil, List.append_nil, lkl]
          rw [e]
          exact hzs
      · rintro Hy ⟨sy, ys, eD, hys⟩
        rw [hul, List.take_length] at hys
        refine ⟨_, rfl, _, rfl, _, _, rfl, rfl, ?_⟩
        have hwn : WaysOf (pre ++ like) (stepW ws like) := by
          rw [← hlike]
          exact ways_step hW q (n + 1)
        refine ⟨D, ys, stepW ws like, pre ++ like, rest, some (.int ((n + 1 : Nat) : Int)), some (.ref lk), v5, v6, v7, rfl, ?_, ?_, hR, fun z hz hm => ?_, s4.trans sy, eD, each_mono (fun _ _ h => h.v) hys, hwn⟩
        · have : (((pre ++ like).length : Nat) : Int) = (pre.length : Int) + ((n + 1 : Nat) : Int) := by rw [List.length_append, lkl]; omega
          rw [this]
          rfl
        · rw [eps, ← hlike, List.append_assoc]
        · rcases List.mem_append.mp hm with hm | hm
          · exact hno z (List.mem_append_right _ hz) hm
          · rw [← hlike] at hm
            exact hq (List.eq_of_mem_replicate hm ▸ hz)
end
end K1
set_option Elab.async false
set_option linter.all false
set_option maxRecDepth 100000
set_option maxHeartbeats 2000000
namespace K1
open PySem PySem.Spec PyProof.Rows L2
open PySem.W (EachIs)
abbrev sGath : Stmt := topS 39
/-- some of the parts of a heap, more than one, not all -/
def GathG (h : Str) (ps : List G) (g : G) : Prop := ∃ o : List G, g = .t (.s h :: o) ∧ o.Sublist ps ∧ 1 < o.length ∧ o.length < ps.length
def spGath (K : PySem.W.Frag) : Sp := fun vs H Q _ => ∃ (v : V) (h : Str) (ps : List G), vs = [v] ∧ In K H v (.t (.s h :: ps)) ∧ (∀ q ∈ ps, shp q = true ∧ fine q = true ∧ dp q ≤ 60) ∧ Runs ps ∧ ps.length ≤ 8 ∧
  ∀ H' l us gs, Same H H' → H l = none → H' l = some (.lst us) → Spots K 1 H' us gs → gs.length ≤ 256 → (∀ g, g ∈ gs ↔ GathG h ps g) → Q (.ref l) H'
def gathOk (w : List G × List G) : Bool := decide (1 < w.1.length) && !w.2.isEmpty
def gathL (h : Str) (ws : List (List G × List G)) : List G := (ws.filter gathOk).map fun w => .t (.s h :: w.1)
theorem gath_mem {h : Str} {ps : List G} {ws : List (List G × List G)} (W : WaysOf ps ws) (g : G) : g ∈ gathL h ws ↔ GathG h ps g := by
  unfold gathL GathG
  rw [List.mem_map]
  constructor
  · rintro ⟨w, hw, rfl⟩
    obtain ⟨h1, h2⟩ := List.mem_filter.mp hw
    have h3 := W.len w h1
    unfold gathOk at h2
    simp only [Bool.and_eq_true, decide_eq_true_iff, Bool.not_eq_true', List.isEmpty_eq_false_iff] at h2
    have h4 := List.length_pos_iff.mpr h2.2
    exact ⟨w.1, rfl, (W.mem _).mp ⟨w, h1, rfl⟩, h2.1, by omega⟩
  · rintro ⟨o, rfl, h1, h2, h3⟩
    obtain ⟨w, hw, rfl⟩ := (W.mem o).mpr h1
    have h4 := W.len w hw
    refine ⟨w, List.mem_filter.mpr ⟨hw, ?_⟩, rfl⟩
    unfold gathOk
    simp only [Bool.and_eq_true, decide_eq_true_iff, Bool.not_eq_true', List.isEmpty_eq_false_iff]
    exact ⟨h2, fun z => by rw [z] at h4; simp at h4; omega⟩
theorem gath_shp {h : Str} {ws : List (List G × List G)} (hs : ∀ w ∈ ws, ∀ g ∈ w.1, shp g = true) : ∀ g ∈ gathL h ws, shp g = true := fun g hg => by
  obtain ⟨w, hw, rfl⟩ := List.mem_map.mp hg
  exact shp_mk (hs w (List.mem_filter.mp hw).1)
section
variable {P : Program} {w : World} {K : PySem.W.Frag} {mg : Str → Option Value} {base : Heap}
abbrev nGath : List Str := ["term", "name", "parts", "some", "others"]
theorem scGath : FnScope nGath ["term"] (defScope sGath) := ⟨rfl, rfl, rfl, by decide +kernel, rfl, by decide +kernel, by decide +kernel⟩
theorem ok_gath {f : Addr} {fd : FuncData} (F : Fun K "gatherings" "gatherings" sGath f fd) (DS : Df P w K mg base C8.CX0 "splits" 1 ["parts"] (spSplits K)) (T : Ct mg) : FnOk P w K mg base C8.CX0 2 f fd ["term"] (spGath K) := by
  refine F.ok scGath (fun vs H Q E h => ?_) (fun cdv A outer s H vs Q E hr h => ?_)
  · obtain ⟨v, h, ps, rfl, _⟩ := h
    rfl
  · obtain ⟨v, h, ps, rfl, hin, hps, hR, h8, k⟩ := h
    refine ⟨_, pss_cons (ps_asg (pv 0) (pg_star rfl (pg_name (i := 1) scGath.nd rfl (by first | exact Or.inl rfl | exact Or.inr rfl)) (pg_name (i := 2) scGath.nd rfl (by first | exact Or.inl rfl | exact Or.inr rfl))))
      (pss_one (ps_ret (pe_lc (own := [("some", 3), ("others", 4)]) (g := gTup K 2 (gCons (gName 3) (gCons (gName 4) gNil))) rfl scGath.nd (pi_list (pe_df DS hr pass0 (pa_cons (pv 2) pa_nil))) (blkOk_by (N := nGath) (sc := defScope sGath) (by decide +kernel))
        (fun _ _ _ _ _ => pg_tup rfl (pgs_cons (pg_name (i := 3) scGath.nd rfl (by first | exact Or.inl rfl | exact Or.inr rfl)) (pgs_cons (pg_name (i := 4) scGath.nd rfl (by first | exact Or.inl rfl | exact Or.inr rfl)) pgs_nil)))
        (fun _ _ _ _ _ => pts_one (PW.pt (pw_and (pt_cmpR op_gt (pe_callB (show CallR _ _ (fun xs H Q => ∃ x n, xs = [x] ∧ LenV K x H n ∧ Q (V.int (n : Nat)) H) from call_len) (by rfl) T.len PySem.boot_len (pa_cons (pv 3) pa_nil)) pe_int (nomark _)) (pw_and1 (show PT _ _ (fun σ H Q => tVar 4 σ H fun x H' => ∃ k, TruV K x H' k ∧ Q k H') from pt_truth (pv 4) (fun _ => rfl))))))
        (fun _ _ _ _ _ => pe_tup (pa_cons (pe_tup (pa_cons (pv 1) (show PA _ _ (StX.tStar K (tVar 3) tNil) from StX.pa_star (pv 3) pa_nil))) (pa_cons (pe_tup (pa_cons (pe_tup (pa_cons (pv 1) (pa_cons (pv 4) (pa_cons (pe_lst pa_nil) pa_nil)))) pa_nil)) pa_nil)))))), ?_⟩
    obtain ⟨a, xs0, rfl, hx, hg⟩ := hin.tup
    obtain ⟨x0, xs, rfl, h0, hgt⟩ : ∃ x0 xs, xs0 = x0 :: xs ∧ In K H x0 (.s h) ∧ InL K H xs ps := by
      cases hg with
      | cons a b => exact ⟨_, _, rfl, a, b⟩
    obtain rfl := h0.str
    have hlen := hgt.len
    refine ⟨_, rfl, a, _, xs, rfl, hx, by omega, fun pl hpl => ?_⟩
    have s1 := Same.new (o := .lst xs) (Same.refl H) hpl
    refine ⟨_, rfl, pl, xs, ps, rfl, upd_same, hgt.same s1, hps, hR, h8, fun H1 l us ws s2 el hw hW => ?_⟩
    have s12 := s1.trans s2
    refine ⟨l, rfl, ⟨us, SqL.of el⟩, fun D hD => ?_⟩
    have hul := hw.len
    have few : ws.length ≤ 256 := by
      have h1 := hW.few
      have h2 : (2 : Nat) ^ ps.length ≤ 2 ^ 8 := Nat.pow_le_pow_right (by decide) h8
      omega
    have wshp : ∀ w ∈ ws, ∀ g ∈ w.1, shp g = true := fun w hw' g hg => (hps g ((((hW.mem w.1).mp ⟨w, hw', rfl⟩).subset hg))).1
    have DH : H D = none := by
      cases e : H D with
      | none => rfl
      | some o => rw [s12 _ _ e] at hD; cases hD
    refine lc_list (K := K) (a := l) (xs := us) (fun i H' => Same H1 H' ∧ ∃ ys, H' D = some (.lst ys) ∧ Spots K 1 H' ys (gathL h (ws.take i)))
      ⟨Same.new (Same.refl _) hD, [], upd_same, .nil⟩ (fun i H' _ h => SqL.of (h.1 _ _ el)) ?_ ?_
    · rintro i y Hy hi ⟨sy, ys, eD, hys⟩
      obtain ⟨wy, hwy, q0, a', b, as, bs, rfl, t1, t2, t3, t4, t5, t6, t7⟩ := K1.each_at hw hi
      have hil := (List.getElem?_eq_some_iff.mp hwy).1
      have e : gathL h (ws.take (i + 1)) = gathL h (ws.take i) ++ (if gathOk wy = true then [.t (.s h :: wy.1)] else []) := by
        unfold gathL
        rw [take_snoc hwy, List.filter_append, List.map_append]
        congr 1
        by_cases z : gathOk wy = true
        · rw [if_pos z, List.filter_cons_of_pos z]; rfl
        · rw [if_neg z, List.filter_cons_of_neg z]; rfl
      have l4 := t4.len
      have l5 := t5.len
      refine ⟨q0, _, rfl, sqt_same sy t1, rfl, _, _, rfl, _, _, rfl, rfl, rfl, ?_⟩
      refine ⟨_, rfl, .ref a', as.length, rfl, .inl ⟨as, SqL.of (sy _ _ t2), rfl⟩, _, _, rfl, rfl, _, rfl, ?_⟩
      have no : ¬ gathOk wy = true → Spots K 1 Hy ys (gathL h (ws.take (i + 1))) := fun z => by
        rw [e, if_neg z, List.append_nil]
        exact hys
      have gk : gathOk wy = (decide (1 < as.length) && !bs.isEmpty) := by
        unfold gathOk
        rw [l4]
        congr 2
        cases bs with
        | nil => rw [List.eq_nil_of_length_eq_zero (l := wy.2) (by simpa using l5.symm)]; rfl
        | cons b bs =>
          cases h2 : wy.2 with
          | nil => rw [h2] at l5; simp at l5
          | cons _ _ => rfl
      refine ite2 (fun h1 => ?_) (fun h1 => ?_)
      rotate_left
      · refine ⟨sy, ys, eD, no fun z => ?_⟩
        rw [gk, Bool.and_eq_true_iff] at z
        have := of_decide_eq_true z.1
        exact h1 (decide_eq_true (by omega))
      have h1' : 1 < as.length := by
        have := of_decide_eq_true h1
        omega
      refine ⟨_, rfl, !bs.isEmpty, .inl ⟨bs, SqL.of (sy _ _ t3), rfl⟩, ?_⟩
      refine ite2 (fun h2 => ?_) (fun h2 => ?_)
      rotate_left
      · refine ⟨sy, ys, eD, no fun z => ?_⟩
        rw [gk, Bool.and_eq_true_iff] at z
        exact h2 z.2
      have hok : gathOk wy = true := by rw [gk, Bool.and_eq_true_iff]; exact ⟨decide_eq_true h1', h2⟩
      have la : as.length ≤ 8 := by
        have := hW.len wy (List.mem_of_getElem? hwy)
        omega
      refine ⟨_, rfl, _, rfl, a', as, rfl, .inr (SqL.of (sy _ _ t2)), by simp only [List.length_append, List.length_cons, List.length_nil]; rw [sizeLine_eq]; omega, fun q1 hq1 => ?_⟩
      have m1 := Same.new (o := .tup (([.str h] : List V) ++ (as ++ []))) (Same.refl Hy) hq1
      have f1 := upd_same (H := Hy) (a := q1) (o := .tup (([.str h] : List V) ++ (as ++ [])))
      refine ⟨_, rfl, _, rfl, (by show 0 ≤ sizeLine; decide), fun e1 he1 => ⟨(by show 3 ≤ sizeLine; decide), fun q2 hq2 => ⟨(by show 1 ≤ sizeLine; decide), fun q3 hq3 => ⟨(by show 2 ≤ sizeLine; decide), fun q4 hq4 => ?_⟩⟩⟩⟩
      have m2 := m1.trans (Same.new (o := .lst []) (Same.refl _) he1)
      have f2 := Same.new (o := .lst []) (Same.refl _) he1 _ _ f1
      have m3 := m2.trans (Same.new (o := .tup [.str h, .ref b, .ref e1]) (Same.refl _) hq2)
      have f3 := Same.new (o := .tup [.str h, .ref b, .ref e1]) (Same.refl _) hq2 _ _ f2
      have m4 := m3.trans (Same.new (o := .tup [.ref q2]) (Same.refl _) hq3)
      have f4 := Same.new (o := .tup [.ref q2]) (Same.refl _) hq3 _ _ f3
      have m5 := m4.trans (Same.new (o := .tup [.ref q1, .ref q3]) (Same.refl _) hq4)
      have f5 := Same.new (o := .tup [.ref q1, .ref q3]) (Same.refl _) hq4 _ _ f4
      have g5 := Same.new (o := .tup [.ref q1, .ref q3]) (Same.refl _) hq4 _ _ (upd_same (a := q3) (o := .tup [.ref q2]))
      have eD5 := m5 _ _ eD
      have yl : ys.length ≤ 300 := by
        have h1 := hys.len
        have h2 : (gathL h (ws.take i)).length ≤ (ws.take i).length := by
          unfold gathL
          rw [List.length_map]
          exact List.length_filter_le _ _
        rw [List.length_take] at h2
        omega
      refine ⟨ys, eD5, by rw [sizeLine_eq]; omega, fun bb o e => ?_, ys ++ [.ref q4], upd_same, ?_⟩
      · rw [upd_ne (ne_of_none e hD)]
        exact m5 _ _ (sy _ _ e)
      · rw [e, if_pos hok]
        have ss : ∀ g ∈ gathL h (ws.take i), shp g = true := gath_shp fun w hw' => wshp w (List.mem_of_mem_take hw')
        refine ((Spots.tk (TupK.of (Ext.of m5)) ss hys).app (.cons ⟨q4, q3, .ref q1, [.ref q2], rfl, SqT.of upd_same, SqT.of g5, by simp, .t (SqT.of f5) (.cons (.s h) (inL_nil (t4.same (sy.trans m5))))⟩ .nil)).tk ((TupK.of (Ext.refl _)).off eD5) fun g hg => ?_
        rcases List.mem_append.mp hg with hg | hg
        · exact ss g hg
        · rw [List.mem_singleton.mp hg]
          exact shp_mk (wshp wy (List.mem_of_getElem? hwy))
    · rintro Hy ⟨sy, ys, eD, hys⟩
      rw [hul, List.take_length] at hys
      refine k Hy D ys _ (s12.trans sy) DH eD hys ?_ fun g => gath_mem hW g
      unfold gathL
      rw [List.length_map]
      exact Nat.le_trans (List.length_filter_le _ _) few
end
end K1
set_option Elab.async false
set_option linter.all false
set_option maxRecDepth 100000
set_option maxHeartbeats 2000000
namespace K1
open PySem PySem.Spec PyProof.Rows L2
open PySem.W (EachIs)
abbrev sOwn : Stmt := topS 40
/-- what is seen at a term's own place -/
def Own (L : List Ln) (g g' : G) : Prop := g' = g ∨ ∃ h ps, g = .t (.s h :: ps) ∧ ((kindOf L h = "row" ∧ g' ∈ nbAll h ps ps.length) ∨ (kindOf L h = "heap" ∧ GathG h ps g'))
theorem laid_parts {L : List Ln} {h : Str} {ps : List G} (e : laid L (.t (.s h :: ps)) = .t (.s h :: ps)) : (∀ p ∈ ps, laid L p = p) ∧ arr (kindOf L h) h ps = ps := by
  have q := (laid_q L _ (.t (.s h :: ps)) (Nat.le_refl _)).2
  rw [e] at q
  have h1 := (q h ps rfl).1
  refine ⟨h1, ?_⟩
  rw [laid_t, (List.map_congr_left h1).trans (List.map_id _)] at e
  have := G.t.inj e
  exact (List.cons.inj this).2
theorem runs_laid {L : List Ln} (ok : LOk L) {h : Str} {ps : List G} (e : laid L (.t (.s h :: ps)) = .t (.s h :: ps)) (hs : ∀ p ∈ ps, stands L p = true) (hl : loose (kindOf L h) = true) : Runs ps := by
  have e2 := (laid_parts e).2
  refine runs_sorted _ ps (Nat.le_refl _) (fun g hg => stands_gok ok _ g (Nat.le_refl _) (hs g hg)) ?_
  unfold arr at e2
  rw [if_pos hl] at e2
  rw [← e2]
  refine List.pairwise_mergeSort (fun a b c h1 h2 => ?_) (fun a b => ?_) _
  · rw [leK_is] at h1 h2 ⊢
    exact decide_eq_true (List.le_trans (of_decide_eq_true h1) (of_decide_eq_true h2))
  · rw [leK_is]
    rcases List.le_total (text a).cps.toList (text b).cps.toList with h | h <;> simp [h]
def spOwn (K : PySem.W.Frag) (C : Addr) : Sp := fun vs H Q _ => ∃ (p : Addr) (L : List Ln) (v : V) (g : G), vs = [.ref p, v] ∧ SgL K C H p L ∧ LOk L ∧ In K H v g ∧ stands L g = true ∧ laid L g = g ∧ fine g = true ∧ dp g ≤ 60 ∧
  ∀ H' l us gs, Same H H' → H l = none → H' l = some (.lst us) → Spots K 1 H' us gs → gs.length ≤ 400 → (∀ g', g' ∈ gs ↔ Own L g g') → Q (.ref l) H'
section
variable {P : Program} {w : World} {K : PySem.W.Frag} {mg : Str → Option Value} {base : Heap}
abbrev nOwn : List Str := ["signs", "term", "spots", "kind"]
theorem scOwn : FnScope nOwn ["signs", "term"] (defScope sOwn) := ⟨rfl, rfl, rfl, by decide +kernel, rfl, by decide +kernel, by decide +kernel⟩
theorem ok_own {f C : Addr} {fd : FuncData} (F : Fun K "own_spots" "own_spots" sOwn f fd) (MK : Mt P w K mg base C8.CX0 C "kind" 2 ["self", "name"] (spKindG K C)) (DN : Df P w K mg base C8.CX0 "neighbours" 1 ["term"] (spNb K)) (DG : Df P w K mg base C8.CX0 "gatherings" 2 ["term"] (spGath K)) (T : Ct mg) (G' : SgC K C) : FnOk P w K mg base C8.CX0 3 f fd ["signs", "term"] (spOwn K C) := by
  obtain ⟨fk, fdk, FK, mK, bK⟩ := MK.ex
  refine F.ok scOwn (fun vs H Q E h => ?_) (fun cdv A outer s H vs Q E hr h => ?_)
  · obtain ⟨p, L, v, g, rfl, _⟩ := h
    rfl
  · obtain ⟨p, L, v, g, rfl, S, ok, hin, hst, hld, hf, hd, k⟩ := h
    refine ⟨_, pss_cons (ps_set (i := 2) scOwn.nd rfl (Or.inl rfl) (pe_lst (pa_cons (pe_tup (pa_cons (pv 1) (pa_cons (pe_tup pa_nil) pa_nil))) pa_nil)))
      (pss_cons (ps_if (pt_not (pt_val (pe_callB call_isi (by rfl) T.isi boot_isinstance (pa_cons (pv 1) (pa_cons (pe_bltn (v := .ty "str") (by rfl) T.str boot_str rfl) pa_nil)))))
        (pss_cons (ps_set (i := 3) scOwn.nd rfl (Or.inl rfl) (pe_meth (pv 0) G'.cl mK FK hr bK .nil pass0 (pa_cons (pe_ix ix_tup (pv 1) pe_int (fun _ _ => rfl)) pa_nil)))
        (C8.pss_cut (ps_if (pt_cmpR op_eq (pv 3) pe_str (nomark _)) (pss_one (ps_expr (pe_bm PySem.F.plainAttrs_list PySem.F.slot_list_extend PySem.F.type_list_extend mt_extend (pv 2) (pa_cons (pe_df DN hr pass0 (pa_cons (pv 1) pa_nil)) pa_nil)))) pss_nil)
        (pss_one (ps_if (pt_cmpR op_eq (pv 3) pe_str (nomark _)) (pss_one (ps_expr (pe_bm PySem.F.plainAttrs_list PySem.F.slot_list_extend PySem.F.type_list_extend mt_extend (pv 2) (pa_cons (pe_df DG hr pass0 (pa_cons (pv 1) pa_nil)) pa_nil)))) pss_nil)))) pss_nil)
      (pss_one (ps_ret (pv 2)))), ?_⟩
    obtain ⟨hs, _⟩ := stands_shp (dp g) g (Nat.le_refl _) hst
    refine ⟨_, rfl, (by show 0 ≤ sizeLine; decide), fun t0 h0 => ⟨(by show 2 ≤ sizeLine; decide), fun t1 h1 => ⟨(by show 1 ≤ sizeLine; decide), fun l hl => ?_⟩⟩⟩
    have m1 := Same.new (o := .tup []) (Same.refl H) h0
    have m2 := m1.trans (Same.new (o := .tup [v, .ref t0]) (Same.refl _) h1)
    have m3 := m2.trans (Same.new (o := .lst [.ref t1]) (Same.refl _) hl)
    have f0 := Same.new (o := .lst [.ref t1]) (Same.refl _) hl _ _ (Same.new (o := .tup [v, .ref t0]) (Same.refl _) h1 _ _ (upd_same (H := H) (a := t0) (o := .tup [])))
    have f1 := Same.new (o := .lst [.ref t1]) (Same.refl _) hl _ _ (upd_same (a := t1) (o := .tup [v, .ref t0]))
    have sp0 : Spots K 1 _ [.ref t1] [g] := .cons ⟨t1, t0, v, [], rfl, SqT.of f1, SqT.of f0, by simp, hin.same m3⟩ .nil
    have lH : H l = none := by
      cases e : H l with
      | none => rfl
      | some o => rw [m2 _ _ e] at hl; cases hl
    have el := upd_same (H := upd (upd H t0 (.tup [])) t1 (.tup [v, .ref t0])) (a := l) (o := .lst [.ref t1])
    generalize upd (upd (upd H t0 (.tup [])) t1 (.tup [v, .ref t0])) l (.lst [.ref t1]) = H3 at m3 sp0 el ⊢
    clear m1 m2 f0 f1 h0 h1 hl
    obtain ⟨d, y1, y2⟩ := isi_str (hin.same m3)
    refine ⟨_, rfl, _, _, _, _, _, rfl, .ty "str", y1, y2, _, rfl, ?_⟩
    rcases shp_cases hs with ⟨x, rfl⟩ | ⟨x, ps, rfl, hp⟩
    · refine iteF ?_
      refine ⟨_, rfl, k H3 l [.ref t1] [.s x] m3 lH el sp0 (by simp) fun g' => ?_⟩
      rw [List.mem_singleton]
      exact ⟨.inl, fun z => z.elim id fun ⟨_, _, z, _⟩ => by cases z⟩
    · refine iteT ?_
      obtain ⟨y', ln, ey, hfi, hsp⟩ := stands_head hst
      cases ey
      have ek : kindOf L x = ln.2.1 := kindOf_of hfi
      obtain ⟨a, xs, rfl, hx, hg⟩ := hin.tup
      obtain ⟨v0, e0, hv0⟩ := hg.get (i := 0) rfl
      obtain rfl := hv0.str
      have h8 : ps.length ≤ 8 := by
        have := stands_wide ok _ _ (Nat.le_refl _) hst
        rw [wide_t] at this
        omega
      have hps : ∀ q ∈ ps, shp q = true ∧ fine q = true ∧ dp q ≤ 60 := fun q hq => ⟨hp q hq, fine_mem hf (List.mem_cons_of_mem _ hq), by
        have h1 : dp (.t (.s x :: ps)) ≤ 59 + 1 := hd
        have := dp_mem h1 (List.mem_cons_of_mem _ hq)
        omega⟩
      have S3 := S.same m3
      obtain ⟨rt, td, zs, ⟨⟨dx, hpp⟩, _⟩, _⟩ := id S3
      refine ⟨_, rfl, p, dx, _, rfl, hpp, sgF_no rt td (by decide +kernel) (by decide +kernel), _, rfl, a, xs, 0, _, rfl, rfl, sqt_same m3 hx, atI_nat (j := 0) e0, p, L, x, ln, rfl, S3, hfi, ?_⟩
      have gsh : ∀ g' ∈ ([.t (.s x :: ps)] : List G), shp g' = true := fun g' hg' => by rw [List.mem_singleton.mp hg']; exact hs
      refine ⟨fun σ' H' => ∃ us gs, σ' = [some (.ref p), some (.ref a), some (.ref l), some (.str ln.2.1)] ∧ Same H H' ∧ H' l = some (.lst us) ∧ Spots K 1 H' us gs ∧ gs.length ≤ 100 ∧ (∀ g' ∈ gs, shp g' = true) ∧ (∀ g', g' ∈ gs ↔ (g' = .t (.s x :: ps) ∨ (ln.2.1 = "row" ∧ g' ∈ nbAll x ps ps.length))), ?_, ?_⟩
      · refine ⟨_, rfl, rfl, _, rfl, ?_⟩
        refine ite2 (fun hk => ?_) (fun hk => ?_)
        · have hk' : ln.2.1 = "row" := by simpa using of_decide_eq_true hk
          refine ⟨_, rfl, .inl ⟨rfl, _, SqL.of el⟩, _, rfl, _, x, ps, rfl, hin.same m3, hp, h8, fun H4 l2 us2 s4 l2n el2 hu2 => ?_⟩
          have ell := s4 _ _ el
          have m4 := m3.trans s4
          have nl := nbAll_len (h := x) (i := ps.length) h8 h8
          have ul := hu2.len
          refine ⟨l, l2, _, us2, rfl, rfl, ell, el2, by rw [sizeLine_eq]; simp only [List.length_cons, List.length_nil]; omega, _, _, rfl, fun b o e => ?_, upd_same, ((Spots.tk (TupK.of (Ext.of s4)) gsh sp0).app hu2).tk ((TupK.of (Ext.refl _)).off ell) fun g' hg' => ?_, ?_, fun g' hg' => ?_, fun g' => ?_⟩
          · rw [upd_ne (ne_of_none e lH)]
            exact m4 _ _ e
          · rcases List.mem_append.mp hg' with z | z
            · exact gsh g' z
            · exact nbAll_shp hp g' z
          · rw [List.length_append]; simp only [List.length_cons, List.length_nil]; omega
          · rcases List.mem_append.mp hg' with z | z
            · exact gsh g' z
            · exact nbAll_shp hp g' z
          · rw [List.mem_append, List.mem_singleton]
            exact or_congr Iff.rfl ⟨fun z => ⟨hk', z⟩, fun z => z.2⟩
        · have hk' : ¬ ln.2.1 = "row" := fun z => hk (decide_eq_true (by rw [z]))
          refine ⟨_, _, rfl, m3, el, sp0, by simp, gsh, fun g' => ?_⟩
          rw [List.mem_singleton]
          exact ⟨.inl, fun z => z.elim id fun z => absurd z.1 hk'⟩
      rintro σ' H4 ⟨us, gs, rfl, m4, el4, hu4, gl4, gsh4, hm4⟩
      refine ⟨_, rfl, rfl, _, rfl, ?_⟩
      refine ite2 (fun hk => ?_) (fun hk => ?_)
      · have hk' : ln.2.1 = "heap" := by simpa using of_decide_eq_true hk
        have hl : loose (kindOf L x) = true := by rw [ek, hk']; decide +kernel
        have hR := runs_laid ok hld hsp hl
        refine ⟨_, rfl, .inl ⟨rfl, _, SqL.of el4⟩, _, rfl, _, x, ps, rfl, hin.same m4, hps, hR, h8, fun H5 l2 us2 gs2 s5 l2n el2 hu2 gl2 hm2 => ?_⟩
        have ell := s5 _ _ el4
        have ul := hu2.len
        have ul4 := hu4.len
        have gsh2 : ∀ g' ∈ gs2, shp g' = true := fun g' hg' => by
          obtain ⟨o, rfl, h1, _⟩ := (hm2 g').mp hg'
          exact shp_mk fun q hq => hp q (h1.subset hq)
        refine ⟨l, l2, _, us2, rfl, rfl, ell, el2, by rw [sizeLine_eq]; omega, _, rfl, k _ l _ _ (fun b o e => ?_) lH upd_same (((Spots.tk (TupK.of (Ext.of s5)) gsh4 hu4).app hu2).tk ((TupK.of (Ext.refl _)).off ell) fun g' hg' => ?_) ?_ fun g' => ?_⟩
        · rw [upd_ne (ne_of_none e lH)]
          exact s5 _ _ (m4 _ _ e)
        · rcases List.mem_append.mp hg' with z | z
          · exact gsh4 g' z
          · exact gsh2 g' z
        · rw [List.length_append]; omega
        · rw [List.mem_append, hm4, hm2]
          constructor
          · rintro ((z | z) | z)
            · exact .inl z
            · exact .inr ⟨x, ps, rfl, .inl ⟨by rw [ek]; exact z.1, z.2⟩⟩
            · exact .inr ⟨x, ps, rfl, .inr ⟨by rw [ek]; exact hk', z⟩⟩
          · rintro (z | ⟨h', ps', e, z⟩)
            · exact .inl (.inl z)
            · cases e
              rcases z with ⟨z1, z2⟩ | ⟨_, z⟩
              · exact .inl (.inr ⟨by rw [← ek]; exact z1, z2⟩)
              · exact .inr z
      · have hk' : ¬ ln.2.1 = "heap" := fun z => hk (decide_eq_true (by rw [z]))
        refine ⟨_, rfl, k H4 l us gs m4 lH el4 hu4 (by omega) fun g' => ?_⟩
        rw [hm4]
        constructor
        · rintro (z | z)
          · exact .inl z
          · exact .inr ⟨x, ps, rfl, .inl ⟨by rw [ek]; exact z.1, z.2⟩⟩
        · rintro (z | ⟨h', ps', e, z⟩)
          · exact .inl z
          · cases e
            rcases z with ⟨z1, z2⟩ | ⟨z1, _⟩
            · exact .inr ⟨by rw [← ek]; exact z1, z2⟩
            · exact absurd (by rw [← ek]; exact z1) hk'
end
end K1
set_option Elab.async false
set_option linter.all false
set_option maxRecDepth 100000
set_option maxHeartbeats 2000000
namespace K1
open PySem PySem.Spec PyProof.Rows L2
open PySem.W (EachIs)
abbrev sSo : Stmt := topS 41
/-- what is seen in a term -/
inductive See (L : List Ln) : G → G → Prop
  | own {g g' : G} : Own L g g' → See L g g'
  | part {h : G} {ps : List G} {q g' : G} : q ∈ ps → See L q g' → See L (.t (h :: ps)) g'
theorem see_s {L : List Ln} {x : Str} {g' : G} : See L (.s x) g' ↔ g' = .s x := by
  constructor
  · intro h
    cases h with
    | own h => exact h.elim id fun ⟨_, _, z, _⟩ => by cases z
  · intro h
    exact .own (.inl h)
theorem see_t {L : List Ln} {h : G} {ps : List G} {g' : G} : See L (.t (h :: ps)) g' ↔ Own L (.t (h :: ps)) g' ∨ ∃ q ∈ ps, See L q g' := by
  constructor
  · intro z
    cases z with
    | own z => exact .inl z
    | part h1 h2 => exact .inr ⟨_, h1, h2⟩
  · rintro (z | ⟨q, h1, h2⟩)
    · exact .own z
    · exact .part h1 h2
theorem own_shp {L : List Ln} {g g' : G} (hs : shp g = true) (h : Own L g g') : shp g' = true := by
  rcases h with rfl | ⟨x, ps, rfl, h⟩
  · exact hs
  · rw [shp_t, List.all_eq_true] at hs
    rcases h with ⟨_, h⟩ | ⟨_, o, rfl, h1, _⟩
    · exact nbAll_shp hs g' h
    · exact shp_mk fun q hq => hs q (h1.subset hq)
theorem see_shp {L : List Ln} {g g' : G} (h : See L g g') : shp g = true → shp g' = true := by
  induction h with
  | own h => exact fun hs => own_shp hs h
  | @part h ps q g' hq _ ih =>
    intro hs
    refine ih ?_
    rcases shp_cases hs with ⟨x, e⟩ | ⟨x, qs, e, hp⟩
    · cases e
    · cases e
      exact hp q hq
def spSo (K : PySem.W.Frag) (C : Addr) (n : Nat) : Sp := fun vs H Q _ => ∃ (p : Addr) (L : List Ln) (v : V) (g : G), vs = [.ref p, v] ∧ SgL K C H p L ∧ LOk L ∧ In K H v g ∧ stands L g = true ∧ laid L g = g ∧ fine g = true ∧ dp g ≤ n ∧ points g ≤ 90 ∧
  ∀ H' l us gs, Same H H' → H l = none → H' l = some (.lst us) → Spots K n H' us gs → gs.length ≤ 400 * points g → (∀ g', g' ∈ gs ↔ See L g g') → Q (.ref l) H'
theorem or_var {i : Nat} {b : Bool} {tb : TT} {σ : L2.St} {H : Hp} {Q : Bool → Hp → Prop} (hi : σ[i]? = some (some (.bl b))) (hT : ∀ H', H' = H → Q true H') (hF : (∀ H', H' = H → Q true H') → tb σ H Q) : tOr (tB (tVar i)) tb σ H Q := by
  refine ⟨_, hi, b, rfl, ?_⟩
  cases b with
  | true => exact hT H rfl
  | false => exact hF hT
section
variable {P : Program} {w : World} {K : PySem.W.Frag} {mg : Str → Option Value} {base : Heap}
abbrev nSo : List Str := ["signs", "term", "spots", "ordered", "at", "around", "one", "way"]
theorem scSo : FnScope nSo ["signs", "term"] (defScope sSo) := ⟨rfl, rfl, rfl, by decide +kernel, rfl, by decide +kernel, by decide +kernel⟩
theorem ok_so {f C : Addr} {fd : FuncData} {n m : Nat} (F : Fun K "spots_of" "spots_of" sSo f fd) (IH : Df P w K mg base C8.CX0 "spots_of" m ["signs", "term"] (spSo K C n)) (MK : Mt P w K mg base C8.CX0 C "kind" 2 ["self", "name"] (spKindG K C)) (DO : Df P w K mg base C8.CX0 "own_spots" 3 ["signs", "term"] (spOwn K C)) (T : Ct mg) (G' : SgC K C) (hm : 3 ≤ m) (hn : n + 1 ≤ 60) : FnOk P w K mg base C8.CX0 (m + 1) f fd ["signs", "term"] (spSo K C (n + 1)) := by
  obtain ⟨fk, fdk, FK, mK, bK⟩ := MK.ex
  refine F.ok scSo (fun vs H Q E h => ?_) (fun cdv A outer s H vs Q E hr h => ?_)
  · obtain ⟨p, L, v, g, rfl, _⟩ := h
    rfl
  · obtain ⟨p, L, v, g, rfl, S, ok, hin, hst, hld, hf, hd, hpt, k⟩ := h
    have hr3 : Room 3 _ := hr.mono hm
    have hr2 : Room 2 _ := hr3.mono (by decide)
    refine ⟨_, pss_cons (ps_set (i := 2) scSo.nd rfl (by first | exact Or.inl rfl | exact Or.inr rfl) (pe_df DO hr3 pass0 (pa_cons (pv 0) (pa_cons (pv 1) pa_nil))))
      (pss_cons (ps_if (pt_val (pe_callB call_isi (by rfl) T.isi boot_isinstance (pa_cons (pv 1) (pa_cons (pe_bltn (v := .ty "str") (by rfl) T.str boot_str rfl) pa_nil)))) (pss_one (ps_ret (pv 2))) pss_nil)
      (pss_cons (ps_set (i := 3) scSo.nd rfl (by first | exact Or.inl rfl | exact Or.inr rfl) (pe_cmpR (op_inT (units65 hr)) (pe_meth (pv 0) G'.cl mK FK hr2 bK .nil pass0 (pa_cons (pe_ix ix_tup (pv 1) pe_int (fun _ _ => rfl)) pa_nil)) (pe_tup (pa_cons pe_str (pa_cons pe_str pa_nil))) (by rfl)))
      (pss_cons (ps_for PassesOwn.never rfl (pi_range2 rfl T.range (pa_cons pe_int (pa_cons (pe_callB call_len (by rfl) T.len PySem.boot_len (pa_cons (pv 1) pa_nil)) pa_nil))) (pg_name (i := 4) scSo.nd rfl (by first | exact Or.inl rfl | exact Or.inr rfl))
        (pss_one (ps_if (PW.pt (pw_or (pt_val (pv 3)) (pw_or1 (pt_cmpR (op_neD hr.units) (pe_ix ix_tup (pv 1) (pv 4) (fun _ _ => rfl)) (pe_ix ix_tup (pv 1) (pe_op op_sub (pv 4) pe_int) (fun _ _ => rfl)) (nomark _)))))
          (pss_cons (ps_set (i := 5) scSo.nd rfl (by first | exact Or.inl rfl | exact Or.inr rfl) (pe_tup (pa_cons (pe_ix ix_tup (pv 1) pe_int (fun _ _ => rfl)) (pa_cons (pe_callTy call_list_of (by rfl) T.list boot_list (pa_cons (pe_slice sl_tup (pv 1) (po_some pe_int) (po_some (pv 4))) pa_nil)) (pa_cons (pe_callTy call_list_of (by rfl) T.list boot_list (pa_cons (pe_slice sl_tup (pv 1) (po_some (pe_op op_add (pv 4) pe_int)) po_none) pa_nil)) pa_nil)))))
          (pss_one (ps_expr (pe_bm PySem.F.plainAttrs_list PySem.F.slot_list_extend PySem.F.type_list_extend mt_extend (pv 2) (pa_cons (pe_lc (own := [("one", 6), ("way", 7)]) (g := gTup K 2 (gCons (gName 6) (gCons (gName 7) gNil))) (tt := tYes) rfl scSo.nd (pi_list (pe_df IH hr pass0 (pa_cons (pv 0) (pa_cons (pe_ix ix_tup (pv 1) (pv 4) (fun _ _ => rfl)) pa_nil)) (Nat.le_refl _))) (blkOk_by (N := nSo) (sc := defScope sSo) (by decide +kernel))
            (fun _ _ _ _ _ => pg_tup rfl (pgs_cons (pg_name (i := 6) scSo.nd rfl (by first | exact Or.inl rfl | exact Or.inr rfl)) (pgs_cons (pg_name (i := 7) scSo.nd rfl (by first | exact Or.inl rfl | exact Or.inr rfl)) pgs_nil))) (fun _ _ _ _ _ => pts_nil)
            (fun _ _ _ _ _ => pe_tup (pa_cons (pv 6) (pa_cons (pe_tup (pa_cons (pv 5) (show PA _ _ (StX.tStar K (tVar 7) tNil) from StX.pa_star (pv 7) pa_nil))) pa_nil)))) pa_nil))))) pss_nil)))
      (pss_one (ps_ret (pv 2)))))), ?_⟩
    obtain ⟨hs, _⟩ := stands_shp (dp g) g (Nat.le_refl _) hst
    refine ⟨_, rfl, _, rfl, p, L, v, g, rfl, S, ok, hin, hst, hld, hf, by omega, fun H1 l us gs s1 lH el hu hgl hm1 => ?_⟩
    obtain ⟨d, y1, y2⟩ := isi_str (hin.same s1)
    refine ⟨_, rfl, _, _, _, _, _, rfl, .ty "str", y1, y2, _, rfl, ?_⟩
    rcases shp_cases hs with ⟨x, rfl⟩ | ⟨x, ps, rfl, hp⟩
    · refine iteT ?_
      refine ⟨_, rfl, k H1 l us gs s1 lH el (hu.up (by omega)) ?_ fun g' => ?_⟩
      · have : points (.s x) = 1 := by simp [points]
        omega
      · rw [hm1, see_s]
        exact ⟨fun z => z.elim id fun z => (by obtain ⟨_, _, z, _⟩ := z; cases z), fun z => .inl z⟩
    · refine iteF ?_
      obtain ⟨y', ln, ey, hfi, hsp⟩ := stands_head hst
      cases ey
      have ek : kindOf L x = ln.2.1 := kindOf_of hfi
      obtain ⟨a, xs, rfl, hx, hg⟩ := hin.tup
      obtain ⟨v0, e0, hv0⟩ := hg.get (i := 0) rfl
      obtain rfl := hv0.str
      have hlen := hg.len
      have hxl : xs.length = ps.length + 1 := by rw [hlen]; rfl
      have h8 : ps.length ≤ 8 := by
        have := stands_wide ok _ _ (Nat.le_refl _) hst
        rw [wide_t] at this
        omega
      have S1 := S.same s1
      obtain ⟨rt, td, zs, ⟨⟨dx, hpp⟩, _⟩, _⟩ := id S1
      obtain ⟨mm1, mm2⟩ := find_mem hfi
      obtain ⟨sk, _, _, _⟩ := kinds_ok _ (ok.kd ln mm1)
      refine ⟨_, rfl, p, dx, _, rfl, hpp, sgF_no rt td (by decide +kernel) (by decide +kernel), _, rfl, a, xs, 0, _, rfl, rfl, sqt_same s1 hx, atI_nat (j := 0) e0, p, L, x, ln, rfl, S1, hfi, ?_⟩
      refine ⟨(by show 2 ≤ sizeLine; decide), fun q hq0 => ⟨.str ln.2.1, [.str "plain", .str "row"], .str _, .tup (SqT.of upd_same) (.cons (.str _) (.cons (.str _) .nil)), sk, by decide +kernel, ?_⟩⟩
      have s2 := s1.trans (Same.new (o := .tup [.str "plain", .str "row"]) (Same.refl H1) hq0)
      refine ⟨_, rfl, .ref a, xs.length, rfl, .inr ⟨xs, sqt_same s2 hx, rfl⟩, _, _, rfl, ⟨by omega, by omega, by omega, by omega⟩, ?_⟩
      rw [show ((xs.length : Int) - 1).toNat = ps.length by omega]
      have eptp : points (.t (.s x :: ps)) = 1 + (ps.map points).sum := points_t _ _
      have gsh : ∀ g' ∈ gs, shp g' = true := fun g' hg' => own_shp hs ((hm1 g').mp hg')
      have s12 := Same.new (o := .tup [.str "plain", .str "row"]) (Same.refl H1) hq0
      refine for_range (lo := 1) (n := ps.length) (fun i σ H' => ∃ (b : Bool) (v4 v5 v6 v7 : Option V) (us : List V × List G), σ = [some (.ref p), some (.ref a), some (.ref l), some (.bl b), v4, v5, v6, v7] ∧ Same H H' ∧ H' l = some (.lst us.1) ∧ Spots K (n + 1) H' us.1 us.2 ∧ us.2.length ≤ 400 + 400 * ((ps.take i).map points).sum ∧ (∀ g', g' ∈ us.2 ↔ Own L (.t (.s x :: ps)) g' ∨ ∃ q ∈ ps.take i, See L q g'))
        ⟨_, none, none, none, none, (us, gs), rfl, s2, s12 _ _ el, (Spots.tk (TupK.of (Ext.of s12)) gsh hu).up (by omega), by simpa using hgl, fun g' => by rw [hm1]; simp⟩ ?_ ?_
      · rintro i σ Hx hi ⟨b, v4, v5, v6, v7, ⟨us, gs⟩, rfl, sx, el, hu, hgl, hm2⟩
        have hpi := List.getElem?_eq_getElem hi
        generalize ps[i] = pi at hpi
        have hpm := List.mem_of_getElem? hpi
        have hpi' : (.s x :: ps : List G)[i + 1]? = some pi := by simpa using hpi
        obtain ⟨vi, evi, hvi⟩ := hg.get hpi'
        have hvx := hvi.same sx
        have hxx := sqt_same sx hx
        have shi := hp pi hpm
        have fii := fine_mem hf (List.mem_cons_of_mem _ hpm)
        have dii : dp pi ≤ n := dp_mem hd (List.mem_cons_of_mem _ hpm)
        have e1 : (1 + (i : Int)) = ((i + 1 : Nat) : Int) := by omega
        have tki : ps.take (i + 1) = ps.take i ++ [pi] := take_snoc hpi
        have pts : ((ps.take (i + 1)).map points).sum = ((ps.take i).map points).sum + points pi := by
          rw [tki, List.map_append, List.sum_append]
          simp
        refine or_var (b := b) rfl (fun H' eH => ?_) (fun hT => ?_)
        · subst eH
          have hat : atI xs (1 + (i : Int)) = some vi := by rw [e1]; exact atI_nat evi
          have sx1 : HT.sIx xs.length 0 (some (1 : Int)) = 1 := by
            rw [show (some (1 : Int)) = some ((1 : Nat) : Int) from rfl, HT.sIx_nat]
            omega
          have sx2 : HT.sIx xs.length 0 (some (1 + (i : Int) + 1)) = i + 2 := by
            rw [show (1 + (i : Int) + 1) = ((i + 2 : Nat) : Int) by omega, HT.sIx_nat]
            omega
          refine iteT ?_
          refine ⟨_, rfl, a, xs, 0, _, rfl, rfl, hxx, atI_nat (j := 0) e0, _, rfl, _, rfl, _, rfl, _, rfl, a, xs, rfl, hxx, fun z => by rw [sx1] at z; exact absurd z.1 (by decide), fun q1 h1 => ?_⟩
          have m1 := Same.new (o := .tup (cutV xs (some 1) (some (1 + (i : Int))))) (Same.refl H') h1
          refine ⟨q1, _, rfl, .inr (SqT.of upd_same), fun l1 hl1 => ?_⟩
          have m2 := m1.trans (Same.new (o := .lst (cutV xs (some 1) (some (1 + (i : Int))))) (Same.refl _) hl1)
          refine ⟨_, rfl, _, rfl, _, _, rfl, rfl, _, rfl, a, xs, rfl, sqt_same m2 hxx, fun z => by rw [sx2] at z; exact absurd z.1 (by omega), fun q2 h2 => ?_⟩
          have m3 := m2.trans (Same.new (o := .tup (cutV xs (some (1 + (i : Int) + 1)) none)) (Same.refl _) h2)
          refine ⟨q2, _, rfl, .inr (SqT.of upd_same), fun l2 hl2 => ⟨(by show 3 ≤ sizeLine; decide), fun t3 h3 => ?_⟩⟩
          have m4 := m3.trans (Same.new (o := .lst (cutV xs (some (1 + (i : Int) + 1)) none)) (Same.refl _) hl2)
          have m5 := m4.trans (Same.new (o := .tup [.str x, .ref l1, .ref l2]) (Same.refl _) h3)
          have el5 := m5 _ _ el
          have gsh2 : ∀ g' ∈ gs, shp g' = true := fun g' hg' => by
            rcases (hm2 g').mp hg' with z | ⟨q, z1, z2⟩
            · exact own_shp hs z
            · exact see_shp z2 (hp q (List.mem_of_mem_take z1))
          have hu5' : Spots K (n + 1) _ us gs := Spots.tk (TupK.of (Ext.of m5)) gsh2 hu
          have hvi5 := hvx.same m5
          have hx5 := sqt_same m5 hxx
          have S5 := S.same (sx.trans m5)
          generalize upd _ t3 (.tup [.str x, .ref l1, .ref l2]) = H5 at m5 el5 hu5' hvi5 hx5 S5 ⊢
          clear m1 m2 m3 m4 h1 hl1 h2 hl2 h3
          have ldi := (laid_parts hld).1 pi hpm
          have ptle : points pi ≤ 90 := by
            have := le_sum (List.mem_map.mpr ⟨pi, hpm, rfl⟩ : points pi ∈ ps.map points)
            omega
          refine ⟨_, rfl, .inl ⟨rfl, _, SqL.of el5⟩, _, rfl, _, rfl, _, rfl, a, xs, 1 + (i : Int), vi, rfl, rfl, hx5, hat, p, L, vi, pi, rfl, S5, ok, hvi5, hsp pi hpm, ldi, fii, dii, ptle, fun H6 l6 us6 gs6 s6 l6n el6 hu6 gl6 hm6 => ⟨l6, rfl, ⟨us6, SqL.of el6⟩, fun D hD => ?_⟩⟩
          have el56 := s6 _ _ el5
          have nlD : l ≠ D := ne_of_none el56 hD
          have ul6 := hu6.len
          have gsh6 : ∀ g' ∈ gs6, shp g' = true := fun g' hg' => see_shp ((hm6 g').mp hg') shi
          refine lc_list (K := K) (a := l6) (xs := us6) (fun j H' => Same H6 H' ∧ ∃ zs, H' D = some (.lst zs) ∧ Spots K (n + 1) H' zs (gs6.take j))
            ⟨Same.new (Same.refl _) hD, [], upd_same, by rw [List.take_zero]; exact .nil⟩ (fun j H' _ h => SqL.of (h.1 _ _ el6)) ?_ ?_
          · rintro j y Hy hj ⟨sy, zs, eD, hzs⟩
            obtain ⟨g0, hg0, q, wa, yv, ws, rfl, b1, b2, b3, b4⟩ := hu6.at hj
            have hjl := (List.getElem?_eq_some_iff.mp hg0).1
            refine ⟨q, _, rfl, sqt_same sy b1, rfl, _, _, rfl, _, _, rfl, rfl, rfl, _, rfl, _, rfl, _, rfl, wa, ws, rfl, .inl (sqt_same sy b2), by simp only [List.length_cons, List.length_append, List.length_nil]; rw [sizeLine_eq]; omega, fun q7 h7 => ⟨(by show 2 ≤ sizeLine; decide), fun q8 h8' => ?_⟩⟩
            have k1 := Same.new (o := .tup (.ref t3 :: (ws ++ []))) (Same.refl Hy) h7
            have k2 := k1.trans (Same.new (o := .tup [yv, .ref q7]) (Same.refl _) h8')
            have f7 := Same.new (o := .tup [yv, .ref q7]) (Same.refl _) h8' _ _ (upd_same (H := Hy) (a := q7) (o := .tup (.ref t3 :: (ws ++ []))))
            have eD2 := k2 _ _ eD
            have zl : zs.length ≤ 40000 := by
              have h1 := hzs.len
              rw [List.length_take] at h1
              omega
            refine ⟨zs, eD2, by rw [sizeLine_eq]; omega, fun bb o e => ?_, zs ++ [.ref q8], upd_same, ?_⟩
            · rw [upd_ne (ne_of_none e hD)]
              exact k2 _ _ (sy _ _ e)
            · rw [take_snoc hg0]
              have s0 : shp g0 = true := gsh6 g0 (List.mem_of_getElem? hg0)
              refine ((Spots.tk (TupK.of (Ext.of k2)) (fun g' hg' => gsh6 g' (List.mem_of_mem_take hg')) hzs).app (.cons ⟨q8, q7, yv, _, rfl, SqT.of upd_same, SqT.of f7, by simp only [List.length_cons, List.length_append, List.length_nil]; omega, (b4.same (sy.trans k2))⟩ .nil)).tk ((TupK.of (Ext.refl _)).off eD2) fun g' hg' => ?_
              rcases List.mem_append.mp hg' with z | z
              · exact gsh6 g' (List.mem_of_mem_take z)
              · rw [List.mem_singleton.mp z]
                exact s0
          · rintro Hy ⟨sy, zs, eD, hzs⟩
            rw [ul6, List.take_length] at hzs
            have zl := hzs.len
            have ul : us.length = gs.length := hu.len
            have pl : ((ps.take i).map points).sum ≤ 90 := by
              have e4 : ps.map points = (ps.take i).map points ++ (ps.drop i).map points := by rw [← List.map_append, List.take_append_drop]
              have e5 := congrArg List.sum e4
              rw [List.sum_append] at e5
              omega
            have el7 := sy _ _ el56
            refine ⟨l, D, us, zs, rfl, rfl, el7, eD, ?_, b, _, _, _, _, (us ++ zs, gs ++ gs6), rfl, fun b o e => ?_, upd_same, ((Spots.tk (TupK.of (Ext.of (s6.trans sy))) gsh2 hu5').app hzs).tk ((TupK.of (Ext.refl _)).off el7) fun g' hg' => ?_, ?_, fun g' => ?_⟩
            · simp only at hgl
              rw [sizeLine_eq]
              omega
            · rw [upd_ne (ne_of_none e lH)]
              exact (m5.trans (s6.trans sy)) _ _ (sx _ _ e)
            · rcases List.mem_append.mp hg' with z | z
              · exact gsh2 g' z
              · exact gsh6 g' z
            · rw [pts]
              simp only at hgl ⊢
              rw [List.length_append]
              omega
            · simp only at hm2 ⊢
              rw [List.mem_append, hm2, hm6, tki]
              constructor
              · rintro ((z | ⟨q, z1, z2⟩) | z)
                · exact .inl z
                · exact .inr ⟨q, List.mem_append_left _ z1, z2⟩
                · exact .inr ⟨pi, List.mem_append_right _ (by simp), z⟩
              · rintro (z | ⟨q, z1, z2⟩)
                · exact .inl (.inl z)
                · rcases List.mem_append.mp z1 with z | z
                  · exact .inl (.inr ⟨q, z, z2⟩)
                  · rw [List.mem_singleton.mp z] at z2
                    exact .inr z2
        · have e2 : (1 + (i : Int) - 1) = ((i : Nat) : Int) := by omega
          obtain ⟨gp, hgp⟩ : ∃ gp, (.s x :: ps : List G)[i]? = some gp := ⟨_, List.getElem?_eq_getElem (by simp; omega)⟩
          obtain ⟨vp, evp, hvp⟩ := hg.get hgp
          have shgp : shp gp = true := by
            cases i with
            | zero => cases (Option.some.inj hgp); simp [shp]
            | succ j => exact hp gp (List.mem_of_getElem? (by simpa using hgp))
          have fgp : fine gp = true := fine_mem hf (List.mem_of_getElem? hgp)
          have dgp : dp gp ≤ n := dp_mem hd (List.mem_of_getElem? hgp)
          refine ⟨_, rfl, _, rfl, a, xs, 1 + (i : Int), vi, rfl, rfl, hxx, by rw [e1]; exact atI_nat evi, _, rfl, _, rfl, _, _, rfl, rfl, a, xs, 1 + (i : Int) - 1, vp, rfl, rfl, hxx, by rw [e2]; exact atI_nat evp, ne_go hvx (hvp.same sx) shi shgp fii fgp (by omega) (by omega) ?_⟩
          refine ⟨_, rfl, ?_⟩
          by_cases eq : pi = gp
          · rw [decide_eq_true eq]
            refine ⟨b, _, v5, v6, v7, (us, gs), rfl, sx, el, hu, ?_, fun g' => ?_⟩
            · rw [pts]
              simp only at hgl ⊢
              omega
            · rw [hm2, tki]
              refine or_congr Iff.rfl ⟨fun ⟨q, h1, h2⟩ => ⟨q, List.mem_append_left _ h1, h2⟩, fun ⟨q, h1, h2⟩ => ?_⟩
              rcases List.mem_append.mp h1 with z | z
              · exact ⟨q, z, h2⟩
              · rw [List.mem_singleton.mp z] at h2
                cases i with
                | zero =>
                  exfalso
                  have e0 : gp = .s x := (Option.some.inj hgp).symm
                  have st := hsp pi hpm
                  rw [eq, e0, stands_s] at st
                  rw [name_nogap (by rw [← mm2]; exact ok.nm ln mm1)] at st
                  cases st
                | succ j =>
                  have hj : ps[j]? = some gp := by simpa using hgp
                  exact ⟨pi, by rw [eq]; exact List.mem_of_getElem? (by rw [List.getElem?_take, if_pos (Nat.lt_succ_self j)]; exact hj), h2⟩
          · rw [decide_eq_false eq]
            exact hT _ rfl
      · rintro σ Hx ⟨b, v4, v5, v6, v7, ⟨us, gs⟩, rfl, sx, el, hu, hgl, hm2⟩
        rw [List.take_length] at hgl hm2
        refine ⟨_, rfl, k Hx l us gs sx lH el hu (by rw [eptp]; simp only at hgl; omega) fun g' => ?_⟩
        rw [hm2, see_t]
end
end K1
set_option Elab.async false
set_option linter.all false
set_option maxRecDepth 100000
set_option maxHeartbeats 2000000
namespace K1
open PySem PySem.Spec PyProof.Rows L2
open PySem.W (EachIs)
abbrev sBt : Stmt := topS 42
abbrev sSeen : Stmt := topS 43
/-! ### spots by their texts -/
theorem rises_sort {ys ks : List Str} (hp : ys.Perm ks) (h : SetS.Rises ys) : ys = sortS ks := by
  refine sortS_uniq hp (List.Pairwise.imp (fun {a b} z => ?_) h)
  exact List.not_lt.mp (of_decide_eq_false (p := b.cps.toList < a.cps.toList) z)
def addF (acc : Fl) (g : G) : Fl := if text g ∈ acc.map (·.1) then acc else acc ++ [(text g, g)]
/-- things by their texts, each once -/
structure ByT (S : G → Prop) (acc : Fl) : Prop where
  nd : (acc.map (·.1)).Nodup
  tx : ∀ p ∈ acc, p.1 = text p.2 ∧ S p.2
  all : ∀ g, S g → text g ∈ acc.map (·.1)
theorem byT_nil : ByT (fun _ => False) [] := ⟨by simp, fun _ z => absurd z (by simp), fun _ z => z.elim⟩
theorem byT_add {S : G → Prop} {acc : Fl} (h : ByT S acc) (g : G) : ByT (fun x => S x ∨ x = g) (addF acc g) := by
  unfold addF
  split
  · next e => exact ⟨h.nd, fun p hp => ⟨(h.tx p hp).1, .inl (h.tx p hp).2⟩, fun x hx => hx.elim (h.all x) fun z => z ▸ e⟩
  · next e =>
    refine ⟨?_, fun p hp => ?_, fun x hx => ?_⟩
    · rw [List.map_append, List.nodup_append]
      exact ⟨h.nd, by simp, fun a ha b hb => by
        simp only [List.map_cons, List.map_nil, List.mem_singleton] at hb
        rw [hb]
        exact fun z => e (z ▸ ha)⟩
    · rcases List.mem_append.mp hp with hp | hp
      · exact ⟨(h.tx p hp).1, .inl (h.tx p hp).2⟩
      · rw [List.mem_singleton.mp hp]
        exact ⟨rfl, .inr rfl⟩
    · rw [List.map_append, List.mem_append]
      rcases hx with hx | rfl
      · exact .inl (h.all x hx)
      · exact .inr (by simp)
theorem ByT.congr {S S' : G → Prop} {acc : Fl} (h : ByT S acc) (e : ∀ g, S g ↔ S' g) : ByT S' acc := ⟨h.nd, fun p hp => ⟨(h.tx p hp).1, (e _).mp (h.tx p hp).2⟩, fun g hg => h.all g ((e g).mpr hg)⟩
theorem byT_look {S : G → Prop} {acc : Fl} (h : ByT S acc) (inj : ∀ a b, S a → S b → text a = text b → a = b) {x : Str} {g : G} : lookF acc x = some g ↔ S g ∧ text g = x := by
  constructor
  · intro e
    obtain ⟨p, h1, h2, h3⟩ := lookF_mem e
    have := h.tx p h1
    rw [h3] at this
    exact ⟨this.2, this.1.symm.trans h2⟩
  · rintro ⟨h1, rfl⟩
    cases e : lookF acc (text g) with
    | none => exact absurd (h.all g h1) (look_none.mp e)
    | some g' =>
      obtain ⟨p, k1, k2, k3⟩ := lookF_mem e
      have := h.tx p k1
      rw [k3] at this
      rw [inj g' g this.2 h1 (this.1.symm.trans k2)]
theorem byT_one {S : G → Prop} {a b : Fl} (ha : ByT S a) (hb : ByT S b) (inj : ∀ a b, S a → S b → text a = text b → a = b) : sortFl a = sortFl b := by
  refine sortFl_eq ha.nd hb.nd fun x => ?_
  cases e : lookF a x with
  | none =>
    cases e2 : lookF b x with
    | none => rfl
    | some g =>
      have := (byT_look ha inj).mpr ((byT_look hb inj).mp e2)
      rw [e] at this
      cases this
  | some g => exact ((byT_look hb inj).mpr ((byT_look ha inj).mp e)).symm
/-- what is kept for a text: what is seen, and the ways to it -/
def EntV (K : PySem.W.Frag) (c : Nat) (Z : Hp) (H : Hp) (v : V) (g : G) : Prop := ∃ (q ll : Addr) (y : V) (ws : List V), v = .ref q ∧ SqT K H q [y, .ref ll] ∧ H ll = some (.lst ws) ∧ ws.length ≤ c ∧ In K H y g ∧ Z ll = none
def Ents (K : PySem.W.Frag) (c : Nat) (Z : Hp) (H : Hp) (vs : List V) (gs : List G) : Prop := EachIs (EntV K c Z H) vs gs
section
variable {K : PySem.W.Frag} {c c' : Nat} {Z H H' : Hp}
theorem EntV.same {v : V} {g : G} (s : Same H H') (h : EntV K c Z H v g) : EntV K c Z H' v g := by
  obtain ⟨q, ll, y, ws, rfl, h1, h2, h3, h4, h5⟩ := h
  exact ⟨q, ll, y, ws, rfl, sqt_same s h1, s _ _ h2, h3, h4.same s, h5⟩
theorem EntV.up {v : V} {g : G} (hc : c ≤ c') (h : EntV K c Z H v g) : EntV K c' Z H v g := by
  obtain ⟨q, ll, y, ws, rfl, h1, h2, h3, h4, h5⟩ := h
  exact ⟨q, ll, y, ws, rfl, h1, h2, Nat.le_trans h3 hc, h4, h5⟩
/-- the table itself changes -/
theorem EntV.offT {T : Addr} {zs : List (Key × V)} {o : HO} {v : V} {g : G} (e : H T = some (.dK zs)) (hs : shp g = true) (h : EntV K c Z H v g) : EntV K c Z (upd H T o) v g := by
  obtain ⟨q, ll, y, ws, rfl, h1, h2, h3, h4, h5⟩ := h
  have tk : TupK H (upd H T o) := tk_offD e
  exact ⟨q, ll, y, ws, rfl, tk.sqt h1, by rw [upd_ne (fun z => by rw [z, e] at h2; cases h2)]; exact h2, h3, in_tk tk _ _ hs h4, h5⟩
/-- some list of ways grows -/
theorem EntV.grow {l : Addr} {zs zs' : List V} {v : V} {g : G} (e : H l = some (.lst zs)) (hz : zs'.length ≤ c) (hs : shp g = true) (h : EntV K c Z H v g) : EntV K c Z (upd H l (.lst zs')) v g := by
  obtain ⟨q, ll, y, ws, rfl, h1, h2, h3, h4, h5⟩ := h
  have tk : TupK H (upd H l (.lst zs')) := (TupK.of (Ext.refl _)).off e
  by_cases hl : ll = l
  · exact ⟨q, ll, y, zs', rfl, tk.sqt h1, by rw [hl]; exact upd_same, hz, in_tk tk _ _ hs h4, h5⟩
  · exact ⟨q, ll, y, ws, rfl, tk.sqt h1, by rw [upd_ne hl]; exact h2, h3, in_tk tk _ _ hs h4, h5⟩
theorem Ents.map {vs : List V} {gs : List G} (f : ∀ v g, g ∈ gs → EntV K c Z H v g → EntV K c' Z H' v g) (h : Ents K c Z H vs gs) : Ents K c' Z H' vs gs := by
  unfold Ents at h ⊢
  induction h with
  | nil => exact .nil
  | cons a _ ih => exact .cons (f _ _ List.mem_cons_self a) (ih fun v g hg => f v g (List.mem_cons_of_mem _ hg))
theorem ent_get {x : Str} {g : G} : ∀ {acc : Fl} {vs : List V}, Ents K c Z H vs (acc.map (·.2)) → lookF acc x = some g → ∃ v, valV ((acc.zip vs).map fun q => ((Sum.inr q.1.1 : Key), q.2)) (.inr x) = some v ∧ EntV K c Z H v g
  | [], _, _, h => by cases h
  | p :: acc, _, .cons (a := v) h t, hl => by
    by_cases e : p.1 = x
    · refine ⟨v, valV_pos (p := ((Sum.inr p.1 : Key), v)) (by rw [e]), ?_⟩
      unfold lookF at hl
      rw [List.find?_cons_of_pos (by simpa using e)] at hl
      rw [← Option.some.inj hl]
      exact h
    · unfold lookF at hl
      rw [List.find?_cons_of_neg (by simpa using e)] at hl
      obtain ⟨u, h1, h2⟩ := ent_get t hl
      exact ⟨u, by rw [← h1]; exact valV_neg (p := ((Sum.inr p.1 : Key), v)) (fun z => e (Sum.inr.inj z)), h2⟩
end
def spBt (K : PySem.W.Frag) (n : Nat) : Sp := fun vs H Q _ => ∃ (l0 : Addr) (us : List V) (gs : List G) (m : Nat), vs = [.ref l0] ∧ H l0 = some (.lst us) ∧ Spots K m H us gs ∧ gs.length ≤ 60000 ∧ (∀ g ∈ gs, shp g = true ∧ fine g = true ∧ dp g ≤ n ∧ sz g ≤ 2000) ∧
  ∀ H' l es acc, Same H H' → H l = none → H' l = some (.lst es) → Ents K 60000 H H' es ((sortFl acc).map (·.2)) → ByT (fun g => g ∈ gs) acc → acc.length ≤ 60000 → Q (.ref l) H'
section
variable {P : Program} {w : World} {K : PySem.W.Frag} {mg : Str → Option Value} {base : Heap}
abbrev nBt : List Str := ["spots", "texts", "one", "way", "text"]
theorem scBt : FnScope nBt ["spots"] (defScope sBt) := ⟨rfl, rfl, rfl, by decide +kernel, rfl, by decide +kernel, by decide +kernel⟩
theorem bootSorted : bootBuiltins "sorted" = some (.builtin "sorted") := by decide +kernel
theorem ok_bt {f : Addr} {fd : FuncData} {n j : Nat} (F : Fun K "by_text" "by_text" sBt f fd) (DT : Df P w K mg base C8.CX0 "text_of" j ["term"] (sp1 K n fun g => .str (text g))) (T : Ct mg) : FnOk P w K mg base C8.CX0 (j + 1) f fd ["spots"] (spBt K n) := by
  refine F.ok scBt (fun vs H Q E h => ?_) (fun cdv A outer s H vs Q E hr h => ?_)
  · obtain ⟨l0, us, gs, m, rfl, _⟩ := h
    rfl
  · obtain ⟨l0, us, gs, m, rfl, hl0, hu, hgl, hgs, k⟩ := h
    have hu' := hu_of hr
    refine ⟨_, pss_cons (ps_set (i := 1) scBt.nd rfl (by first | exact Or.inl rfl | exact Or.inr rfl) pe_dnewK)
      (pss_cons (ps_for PassesOwn.never rfl (pi_list (pv 0)) (pg_tup rfl (pgs_cons (pg_name (i := 2) scBt.nd rfl (by first | exact Or.inl rfl | exact Or.inr rfl)) (pgs_cons (pg_name (i := 3) scBt.nd rfl (by first | exact Or.inl rfl | exact Or.inr rfl)) pgs_nil)))
        (pss_cons (ps_set (i := 4) scBt.nd rfl (by first | exact Or.inl rfl | exact Or.inr rfl) (pe_df DT hr pass0 (pa_cons (pv 2) pa_nil) (Nat.le_refl _)))
        (C8.pss_cut (ps_if (pt_cmp (pc_dnotin hu' (pv 4) (pv 1))) (pss_one (ps_dput hu' (pv 1) (pv 4) (pe_tup (pa_cons (pv 2) (pa_cons (pe_lst pa_nil) pa_nil))) rfl)) pss_nil)
        (pss_one (ps_expr (pe_bm PySem.F.plainAttrs_list PySem.F.slot_list_append PySem.F.type_list_append mt_append (pe_ix ix_tup (pe_dget hu' (pv 1) (pv 4) (fun _ _ => rfl)) pe_int (fun _ _ => rfl)) (pa_cons (pv 3) pa_nil)))))))
      (pss_one (ps_ret (pe_lc (own := [("text", 4)]) (g := gName 4) (tt := tYes) rfl scBt.nd (pi_list (pe_callB (call_sortedDA rfl) (by rfl) T.sorted bootSorted (pa_cons (pv 1) pa_nil))) (blkOk_by (N := nBt) (sc := defScope sBt) (by decide +kernel)) (fun _ _ _ _ _ => pg_name (i := 4) scBt.nd rfl (by first | exact Or.inl rfl | exact Or.inr rfl)) (fun _ _ _ _ _ => pts_nil)
            (fun _ _ _ _ _ => pe_dget hu' (pv 1) (pv 4) (fun _ _ => rfl)))))), ?_⟩
    intro Td hTd
    have s0 := Same.new (o := .dK []) (Same.refl H) hTd
    have hul := hu.len
    refine ⟨_, rfl, l0, rfl, ⟨us, SqL.of (s0 _ _ hl0)⟩, for_list (K := K) (a := l0) (xs := us) (fun i σ H' => ∃ (v2 v3 v4 : Option V) (acc : Fl) (vs : List V), σ = [some (.ref l0), some (.ref Td), v2, v3, v4] ∧ Same H H' ∧ H' Td = some (.dK ((acc.zip vs).map fun q => ((Sum.inr q.1.1 : Key), q.2))) ∧ Ents K i H H' vs (acc.map (·.2)) ∧ ByT (fun g => g ∈ gs.take i) acc ∧ acc.length ≤ i)
      ⟨none, none, none, [], [], rfl, s0, upd_same, .nil, byT_nil.congr fun g => by simp, by simp⟩ (fun i σ H' _ ⟨_, _, _, _, _, _, sm, _⟩ => SqL.of (sm _ _ hl0)) ?_ ?_⟩
    · rintro i x σ Hx hi ⟨v2, v3, v4, acc, vs, rfl, sx, eT, hv, hB, accl⟩
      obtain ⟨g, hg, q, wa, y, ws, rfl, t1, t2, t3, t4⟩ := hu.at hi
      have hgm := List.mem_of_getElem? hg
      obtain ⟨z1, z2, z3, z4⟩ := hgs g hgm
      have hil := (List.getElem?_eq_some_iff.mp hg).1
      refine ⟨q, _, rfl, sqt_same sx t1, rfl, _, _, rfl, _, _, rfl, rfl, _, rfl, y, g, rfl, t4.same sx, z1, z2, z3, z4, fun H1 s1 => ?_⟩
      have eT1 := s1 _ _ eT
      have sx1 := sx.trans s1
      have hv1 : Ents K i H H1 vs (acc.map (·.2)) := hv.map fun _ _ _ h => h.same s1
      have hvl : vs.length = acc.length := by rw [each_len hv, List.length_map]
      have accs : ∀ g' ∈ acc.map (·.2), shp g' = true := fun g' hg' => by
        obtain ⟨p, hp, rfl⟩ := List.mem_map.mp hg'
        exact (hgs p.2 (List.mem_of_mem_take (hB.tx p hp).2)).1
      have hBn := (byT_add hB g).congr (S' := fun g' => g' ∈ gs.take (i + 1)) fun g' => by
        rw [take_snoc hg, List.mem_append, List.mem_singleton]
      refine ⟨fun σ' H' => ∃ (vs' : List V), σ' = [some (.ref l0), some (.ref Td), some y, some (.ref wa), some (.str (text g))] ∧ Same H H' ∧ H' Td = some (.dK (((addF acc g).zip vs').map fun q => ((Sum.inr q.1.1 : Key), q.2))) ∧ Ents K i H H' vs' ((addF acc g).map (·.2)), ?_, ?_⟩
      · refine ⟨_, rfl, _, rfl, Td, _, rfl, .inl ⟨_, .inr (text g), .inl eT1, rfl, rfl⟩, _, rfl, ?_⟩
        by_cases hm : text g ∈ acc.map (·.1)
        · obtain ⟨g', hg'⟩ : ∃ g', lookF acc (text g) = some g' := by
            cases e : lookF acc (text g) with
            | none => exact absurd hm (look_none.mp e)
            | some g' => exact ⟨g', rfl⟩
          obtain ⟨u, hu1, _⟩ := ent_get hv1 hg'
          refine iteF_ (by rw [hu1]; simp) ?_
          refine ⟨vs, rfl, sx1, ?_, ?_⟩
          · unfold addF; rw [if_pos hm]; exact eT1
          · unfold addF; rw [if_pos hm]; exact hv1
        · have hn : valV ((acc.zip vs).map fun q => ((Sum.inr q.1.1 : Key), q.2)) (.inr (text g)) = none := by
            unfold valV
            rw [Option.map_eq_none_iff, List.find?_eq_none]
            intro kv hkv e
            obtain ⟨q', hq', rfl⟩ := List.mem_map.mp hkv
            have e' : q'.1.1 = text g := by simpa using e
            exact hm (List.mem_map.mpr ⟨q'.1, (List.of_mem_zip hq').1, e'⟩)
          refine iteT_ (by rw [hn]; rfl) ?_
          refine ⟨_, rfl, (by show 0 ≤ sizeLine; decide), fun q1 h1 => ⟨(by show 2 ≤ sizeLine; decide), fun q2 h2 => ?_⟩⟩
          have m1 := Same.new (o := .lst []) (Same.refl H1) h1
          have m2 := m1.trans (Same.new (o := .tup [y, .ref q1]) (Same.refl _) h2)
          have f1 := Same.new (o := .tup [y, .ref q1]) (Same.refl _) h2 _ _ (upd_same (H := H1) (a := q1) (o := .lst []))
          have eT2 := m2 _ _ eT1
          refine ⟨_, rfl, _, rfl, Td, _, rfl, .inl ⟨_, .inr (text g), eT2, rfl, ?_, rfl⟩, vs ++ [.ref q2], rfl, fun b o e => ?_, ?_, ?_⟩
          · rw [List.length_map, List.length_zip, sizeLine_eq]
            omega
          · rw [upd_ne (ne_of_none e hTd)]
            exact m2 _ _ (sx1 _ _ e)
          · unfold addF
            rw [if_neg hm, upd_same, put_new hm, zip_snoc hvl]
          · unfold addF
            rw [if_neg hm, List.map_append]
            have new : EntV K i H (upd (upd H1 q1 (.lst [])) q2 (.tup [y, .ref q1])) (.ref q2) g := ⟨q2, q1, y, [], rfl, SqT.of upd_same, f1, by simp, (t4.same sx1).same m2, by
              cases e : H q1 with
              | none => rfl
              | some o => rw [sx1 _ _ e] at h1; cases h1⟩
            exact each_app (R := EntV K i H _) (new.offT eT2 z1) ((hv1.map fun _ _ _ h => h.same m2).map fun _ _ hg' h => h.offT eT2 (accs _ hg'))
      · rintro σ' H2 ⟨vs', rfl, s2, eT2, hv2⟩
        have accs2 : ∀ g' ∈ (addF acc g).map (·.2), shp g' = true := fun g' hg' => by
          obtain ⟨p, hp, rfl⟩ := List.mem_map.mp hg'
          exact (hgs p.2 (List.mem_of_mem_take (hBn.tx p hp).2)).1
        obtain ⟨g', hg'⟩ : ∃ g', lookF (addF acc g) (text g) = some g' := by
          cases e : lookF (addF acc g) (text g) with
          | none => exact absurd (hBn.all g (by rw [take_snoc hg]; simp)) (look_none.mp e)
          | some g' => exact ⟨g', rfl⟩
        obtain ⟨u, hu1, q', ll, y', ws', rfl, e1, e2, e3, e4, e5⟩ := ent_get hv2 hg'
        refine ⟨_, rfl, _, rfl, Td, _, rfl, .inl ⟨_, .inr (text g), .inl eT2, rfl, hu1.symm⟩, q', _, 1, _, rfl, rfl, e1, atI_nat (j := 1) rfl, .inl ⟨rfl, _, SqL.of e2⟩, _, rfl, ll, ws', .ref wa, rfl, rfl, e2, by rw [sizeLine_eq]; omega, _, _, _, addF acc g, vs', rfl, ?_, ?_, ?_, hBn, ?_⟩
        · exact fun b o e => by
            rw [upd_ne (ne_of_none e e5)]
            exact s2 _ _ e
        · rw [upd_ne (fun z => by rw [← z, eT2] at e2; cases e2)]
          exact eT2
        · exact (hv2.map fun _ _ _ h => h.up (Nat.le_succ i)).map fun _ _ hg' h => h.grow e2 (by rw [List.length_append]; simp; omega) (accs2 _ hg')
        · unfold addF
          split
          · omega
          · rw [List.length_append]; simp; omega
    · rintro σ Hx ⟨v2, v3, v4, acc, vs, rfl, sx, eT, hv, hB, accl⟩
      rw [hul, List.take_length] at hB
      have hvl : vs.length = acc.length := by rw [each_len hv, List.length_map]
      have accs : ∀ g' ∈ acc.map (·.2), shp g' = true := fun g' hg' => by
        obtain ⟨p, hp, rfl⟩ := List.mem_map.mp hg'
        exact (hgs p.2 (hB.tx p hp).2).1
      refine ⟨_, rfl, Td, _, acc.map (·.1), rfl, .inl eT, tab_keys hvl, fun ys l hp hs hln => ?_⟩
      obtain rfl := rises_sort hp hs
      have s1 := Same.new (o := .lst ((sortS (acc.map (·.1))).map V.str)) (Same.refl Hx) hln
      have hkl : (sortS (acc.map (·.1))).length = acc.length := by rw [(sortS_perm _).length_eq, List.length_map]
      refine ⟨l, rfl, ⟨_, SqL.of upd_same⟩, fun D hDn => ?_⟩
      have DH : H D = none := by
        cases e : H D with
        | none => rfl
        | some o => rw [s1 _ _ (sx _ _ e)] at hDn; cases hDn
      refine lc_list (K := K) (a := l) (xs := (sortS (acc.map (·.1))).map V.str) (fun j H' => Same (upd Hx l (.lst ((sortS (acc.map (·.1))).map V.str))) H' ∧ ∃ ys, H' D = some (.lst ys) ∧ Ents K 60000 H (upd Hx l (.lst ((sortS (acc.map (·.1))).map V.str))) ys (((sortFl acc).take j).map (·.2)))
        ⟨Same.new (Same.refl _) hDn, [], upd_same, .nil⟩ (fun j H' _ h => SqL.of (h.1 _ _ upd_same)) ?_ ?_
      · rintro j x Hy hx ⟨nx, ys, eD, hys⟩
        rw [List.getElem?_map] at hx
        obtain ⟨kk, hk, rfl⟩ := Option.map_eq_some_iff.mp hx
        obtain ⟨g, hg⟩ := sortS_look hk
        have hj := (List.getElem?_eq_some_iff.mp hk).1
        obtain ⟨u, hu1, hu2⟩ := ent_get (hv.map fun _ _ _ h => (h.same s1).up (c' := 60000) (by omega)) hg
        have eF := nx _ _ (s1 _ _ eT)
        have e1 : (sortFl acc)[j]? = some (kk, g) := by rw [sortFl_at hk, hg]; rfl
        have hyl : ys.length ≤ 60000 := by
          have e3 := each_len hys
          rw [List.length_map, List.length_take] at e3
          omega
        refine ⟨rfl, _, rfl, _, rfl, Td, u, rfl, .inl ⟨_, .inr kk, .inl eF, rfl, hu1.symm⟩, ys, eD, by rw [sizeLine_eq]; omega, fun b o e => ?_, ys ++ [u], upd_same, ?_⟩
        · rw [upd_ne (ne_of_none e hDn)]
          exact nx _ _ e
        · rw [take_snoc e1, List.map_append]
          exact each_app (R := EntV K 60000 H _) hu2 hys
      · rintro Hy ⟨nx, ys, eD, hys⟩
        rw [List.length_map, hkl, ← sortFl_len, List.take_length] at hys
        exact k Hy D ys acc (sx.trans (s1.trans nx)) DH eD (hys.map fun _ _ _ h => h.same nx) hB (by omega)
end
end K1
set_option Elab.async false
set_option linter.all false
set_option maxRecDepth 100000
set_option maxHeartbeats 2000000
namespace K1
open PySem PySem.Spec PyProof.Rows L2
open PySem.W (EachIs)
theorem gok_shp (n : Nat) : ∀ g, dp g ≤ n → gok g = true → shp g = true := by
  induction n with
  | zero =>
    intro g h
    have := dp_pos g
    omega
  | succ n ih =>
    intro g hd hg
    cases g with
    | s y => simp [shp]
    | l ps => simp [gok] at hg
    | o d => simp [gok] at hg
    | t ps =>
      cases ps with
      | nil => simp [gok] at hg
      | cons h ps =>
        cases h with
        | s y =>
          rw [gok_t, Bool.and_eq_true_iff] at hg
          exact shp_mk fun p hp => ih p (dp_mem hd (List.mem_cons_of_mem _ hp)) (List.all_eq_true.mp hg.2 p hp)
        | _ => simp [gok] at hg
theorem nb_sub {h : Str} {ps : List G} {i : Nat} {g : G} (hg : g ∈ nbAll h ps i) : ∃ o, g = .t (.s h :: o) ∧ o.Sublist ps := by
  obtain ⟨f, _, hf⟩ := List.mem_flatMap.mp hg
  obtain ⟨k, _, hk⟩ := List.mem_flatMap.mp hf
  split at hk
  · rw [List.mem_singleton.mp hk]
    exact ⟨_, rfl, (List.take_sublist _ _).trans (List.drop_sublist _ _)⟩
  · exact absurd hk (by simp)
theorem own_sub {L : List Ln} {g g' : G} (h : Own L g g') : g' = g ∨ ∃ x ps o, g = .t (.s x :: ps) ∧ g' = .t (.s x :: o) ∧ o.Sublist ps := by
  rcases h with rfl | ⟨x, ps, rfl, h⟩
  · exact .inl rfl
  · rcases h with ⟨_, h⟩ | ⟨_, o, rfl, h1, _⟩
    · obtain ⟨o, rfl, h1⟩ := nb_sub h
      exact .inr ⟨x, ps, o, rfl, rfl, h1⟩
    · exact .inr ⟨x, ps, o, rfl, rfl, h1⟩
theorem sum_sub {f : G → Nat} {a b : List G} (h : a.Sublist b) : (a.map f).sum ≤ (b.map f).sum := by
  induction h with
  | slnil => exact Nat.le_refl _
  | cons x _ ih => rw [List.map_cons, List.sum_cons]; omega
  | cons_cons x _ ih => rw [List.map_cons, List.sum_cons, List.map_cons, List.sum_cons]; omega
theorem see_less {L : List Ln} {g g' : G} (h : See L g g') : fine g = true → gok g = true → fine g' = true ∧ gok g' = true ∧ dp g' ≤ dp g ∧ sz g' ≤ sz g := by
  induction h with
  | own h =>
    intro hf hg
    rcases own_sub h with rfl | ⟨x, ps, o, rfl, rfl, hs⟩
    · exact ⟨hf, hg, Nat.le_refl _, Nat.le_refl _⟩
    · rw [gok_t, Bool.and_eq_true_iff, List.all_eq_true] at hg
      refine ⟨fine_mk fun p hp => ?_, ?_, ?_, ?_⟩
      · rcases List.mem_cons.mp hp with rfl | hp
        · exact fine_mem hf List.mem_cons_self
        · exact fine_mem hf (List.mem_cons_of_mem _ (hs.subset hp))
      · rw [gok_t, Bool.and_eq_true_iff, List.all_eq_true]
        exact ⟨hg.1, fun p hp => hg.2 p (hs.subset hp)⟩
      · rw [dp_ts, dp_ts]
        have : maxl (o.map dp) ≤ maxl (ps.map dp) := maxl_le.mpr fun m hm => by
          obtain ⟨p, hp, rfl⟩ := List.mem_map.mp hm
          exact le_maxl (List.mem_map.mpr ⟨p, hs.subset hp, rfl⟩)
        omega
      · rw [sz_ts, sz_ts]
        have := sum_sub (f := sz) hs
        omega
  | @part h ps q g' hq _ ih =>
    intro hf hg
    have hm : q ∈ h :: ps := List.mem_cons_of_mem _ hq
    have hgq : gok q = true := by
      rcases shp_cases (gok_shp _ _ (Nat.le_refl _) hg) with ⟨x, e⟩ | ⟨x, qs, e, _⟩
      · cases e
      · cases e
        rw [gok_t, Bool.and_eq_true_iff, List.all_eq_true] at hg
        exact hg.2 q hq
    obtain ⟨a, b, c, d⟩ := ih (fine_mem hf hm) hgq
    have h1 := sz_mem hm
    have h2 := dp_mem (n := dp (.t (h :: ps)) - 1) (by have := dp_pos (.t (h :: ps)); omega) hm
    exact ⟨a, b, by omega, by omega⟩
def spSeen (K : PySem.W.Frag) (C CT : Addr) : Sp := fun vs H Q E => ∃ (p : Addr) (L : List Ln) (v : V) (g : G), vs = [.ref p, v] ∧ SgL K C H p L ∧ LOk L ∧ In K H v g ∧ fine g = true ∧ sz g ≤ 2000 ∧ lay0 L g = true ∧
  ∀ H' l us acc, Same H H' → H l = none → H' l = some (.lst us) → InL K H' us ((sortFl acc).map (·.2)) → ByT (See L (laid L g)) acc → acc.length ≤ 60000 → Q (.ref l) H'
section
variable {P : Program} {w : World} {K : PySem.W.Frag} {mg : Str → Option Value} {base : Heap}
abbrev nSeen : List Str := ["signs", "term", "one", "_"]
theorem scSeen : FnScope nSeen ["signs", "term"] (defScope sSeen) := ⟨rfl, rfl, rfl, by decide +kernel, rfl, by decide +kernel, by decide +kernel⟩
theorem ok_seen {f C CT f1 : Addr} {fd fd1 : FuncData} {n j m b : Nat} (F : Fun K "seen" "seen" sSeen f fd)
    (F1 : FnOk P w K mg base (L2.CX P w) m f1 fd1 ["signs", "draft"] (spAsk K C CT (aLaid K))) (g1 : mg "laid" = some (.ref f1)) (k1 : PySem.W.keepIn K (.ref f1) = true) (b1 : Binds K fd1 ["signs", "draft"] [])
    (DS : Df P w K mg base C8.CX0 "spots_of" j ["signs", "term"] (spSo K C 13)) (DB : Df P w K mg base C8.CX0 "by_text" b ["spots"] (spBt K n)) (hj : j ≤ m) (hb : b ≤ m) (hn : 13 ≤ n) : FnOk P w K mg base (L2.CX P w) (m + 1) f fd ["signs", "term"] (spSeen K C CT) := by
  refine F.okX scSeen (fun vs H Q E h => ?_) (fun cdv A outer s H vs Q E hr h => ?_)
  · obtain ⟨p, L, v, g, rfl, _⟩ := h
    rfl
  · obtain ⟨p, L, v, g, rfl, S, ok, hin, hf, hz, hl0, k⟩ := h
    refine ⟨_, pss_one (ps_ret (pe_lc (own := [("one", 2), ("_", 3)]) (g := gTup K 2 (gCons (gName 2) (gCons (gName 3) gNil))) (tt := tYes) rfl scSeen.nd (pi_list (pe_df DB (hr.mono hb) pass0 (pa_cons (pe_df DS (hr.mono hj) pass0 (pa_cons (pv 0) (pa_cons (pe_call F1 hr (by rfl) g1 k1 b1 .nil (passes_call (takes_of rfl rfl rfl rfl) (fun _ _ _ _ h => h)) (pa_cons (pv 0) (pa_cons (pv 1) pa_nil))) pa_nil)) (Nat.le_refl _)) pa_nil) (Nat.le_refl _))) (blkOk_by (N := nSeen) (sc := defScope sSeen) (by decide +kernel))
        (fun _ _ _ _ _ => pg_tup rfl (pgs_cons (pg_name (i := 2) scSeen.nd rfl (by first | exact Or.inl rfl | exact Or.inr rfl)) (pgs_cons (pg_name (i := 3) scSeen.nd rfl (by first | exact Or.inl rfl | exact Or.inr rfl)) pgs_nil))) (fun _ _ _ _ _ => pts_nil)
        (fun _ _ _ _ _ => pv 2))), ?_⟩
    obtain ⟨hL, hs, hd13⟩ := lay0_less hl0 hf
    have hl0' := hl0
    unfold lay0 at hl0'
    simp only [Bool.and_eq_true, Bool.not_eq_true', beyond, Bool.or_eq_false_iff, decide_eq_false_iff_not, decide_eq_true_iff] at hl0'
    have hst : stands L (laid L g) = true := stands_laid _ g (Nat.le_refl _) hl0'.1 (by omega)
    have hgk := stands_gok ok _ _ (Nat.le_refl _) hst
    have dL := hL.dp
    have zL := hL.sz
    refine ⟨_, rfl, _, rfl, _, rfl, p, L, v, g, rfl, S, ok, hin, hf, hz, fun H1 s1 => ⟨fun _ v' hv' => ?_, fun z => by rw [hl0] at z; cases z⟩⟩
    refine ⟨p, L, v', laid L g, rfl, S.same s1, ok, hv', hst, laid_laid L g, hL.fine, by omega, by omega, fun H2 l2 us2 gs2 s2 l2n el2 hu2 gl2 hm2 => ?_⟩
    have gok2 : ∀ g' ∈ gs2, shp g' = true ∧ fine g' = true ∧ dp g' ≤ n ∧ sz g' ≤ 2000 := fun g' hg' => by
      have h1 := (hm2 g').mp hg'
      obtain ⟨a, b, c, d⟩ := see_less h1 hL.fine hgk
      exact ⟨see_shp h1 hL.shp, a, by omega, by omega⟩
    refine ⟨l2, us2, gs2, 13, rfl, el2, hu2, by omega, gok2, fun H3 l3 es acc s3 l3n el3 he hB accl => ?_⟩
    have s13 := s1.trans (s2.trans s3)
    have hBs := hB.congr (S' := See L (laid L g)) hm2
    refine ⟨l3, rfl, ⟨es, SqL.of el3⟩, fun D hD => ?_⟩
    have DH : H D = none := by
      cases e : H D with
      | none => rfl
      | some o => rw [s13 _ _ e] at hD; cases hD
    have hel := each_len he
    have shpA : ∀ g' ∈ (sortFl acc).map (·.2), shp g' = true := fun g' hg' => by
      obtain ⟨q, hq, rfl⟩ := List.mem_map.mp hg'
      exact see_shp (hBs.tx q (sortFl_mem hq)).2 hL.shp
    refine lc_list (K := K) (a := l3) (xs := es) (fun i H' => Same H3 H' ∧ ∃ ys, H' D = some (.lst ys) ∧ InL K H' ys (((sortFl acc).map (·.2)).take i))
      ⟨Same.new (Same.refl _) hD, [], upd_same, by rw [List.take_zero]; exact .nil⟩ (fun i H' _ h => SqL.of (h.1 _ _ el3)) ?_ ?_
    · rintro i x Hy hi ⟨sy, ys, eD, hys⟩
      obtain ⟨g', hg', q, ll, y, ws, rfl, e1, e2, e3, e4, _⟩ := K1.each_at he hi
      have hyl : ys.length ≤ 60000 := by
        have h1 := hys.len
        rw [List.length_take, List.length_map, sortFl_len] at h1
        omega
      refine ⟨q, _, rfl, sqt_same sy e1, rfl, _, _, rfl, _, _, rfl, rfl, rfl, _, rfl, ys, eD, by rw [sizeLine_eq]; omega, fun b o e => ?_, ys ++ [y], upd_same, ?_⟩
      · rw [upd_ne (ne_of_none e hD)]
        exact sy _ _ e
      · rw [take_snoc hg']
        have off : TupK Hy (upd Hy D (.lst (ys ++ [y]))) := (TupK.of (Ext.refl _)).off eD
        exact (inL_tk off _ _ (fun g' hg' => shpA g' (List.mem_of_mem_take hg')) hys).app (.cons (in_tk off _ _ (shpA g' (List.mem_of_getElem? hg')) (e4.same sy)) .nil)
    · rintro Hy ⟨sy, ys, eD, hys⟩
      rw [hel, List.take_length] at hys
      exact k Hy D ys acc (s13.trans sy) DH eD hys hBs accl
end
end K1
set_option Elab.async false
set_option linter.all false
set_option maxRecDepth 100000
set_option maxHeartbeats 2000000
namespace K1
open PySem PySem.Spec PyProof.Rows L2
open PySem.W (EachIs)
abbrev sSubs : Stmt := topS 60
/-! ### the law's places -/
/-- a list of places -/
def NatV (H : Hp) (v : V) (is : List Nat) : Prop := ∃ a, v = .ref a ∧ H a = some (.lst (is.map fun n : Nat => V.int n))
def Nats (H : Hp) (vs : List V) (ss : List (List Nat)) : Prop := EachIs (NatV H) vs ss
def NatD (D : Addr) (H : Hp) (v : V) (is : List Nat) : Prop := ∃ a, v = .ref a ∧ H a = some (.lst (is.map fun n : Nat => V.int n)) ∧ a ≠ D
theorem NatD.v {D : Addr} {H : Hp} {v : V} {is : List Nat} (h : NatD D H v is) : NatV H v is := by
  obtain ⟨a, rfl, h, _⟩ := h
  exact ⟨a, rfl, h⟩
theorem NatD.same {D : Addr} {H H' : Hp} {v : V} {is : List Nat} (s : Same H H') (h : NatD D H v is) : NatD D H' v is := by
  obtain ⟨a, rfl, h, n⟩ := h
  exact ⟨a, rfl, s _ _ h, n⟩
theorem NatD.off {D : Addr} {H : Hp} {v : V} {is : List Nat} {o : HO} (h : NatD D H v is) : NatD D (upd H D o) v is := by
  obtain ⟨a, rfl, h, n⟩ := h
  exact ⟨a, rfl, by rw [upd_ne n]; exact h, n⟩
theorem NatV.same {H H' : Hp} {v : V} {is : List Nat} (s : Same H H') (h : NatV H v is) : NatV H' v is := by
  obtain ⟨a, rfl, h⟩ := h
  exact ⟨a, rfl, s _ _ h⟩
theorem Nats.same {H H' : Hp} {vs : List V} {ss : List (List Nat)} (s : Same H H') (h : Nats H vs ss) : Nats H' vs ss := each_mono (fun _ _ h => h.same s) h
theorem each_app2 {α β : Type} {R : α → β → Prop} : ∀ {as bs : List α} {cs ds : List β}, EachIs R as cs → EachIs R bs ds → EachIs R (as ++ bs) (cs ++ ds)
  | _, _, _, _, .nil, h => h
  | _, _, _, _, .cons a r, h => .cons a (each_app2 r h)
def subsN : Nat → List (List Nat)
  | 0 => [[]]
  | n + 1 => subsN n ++ (subsN n).map fun s => s ++ [n]
theorem subs_mem : ∀ (n : Nat) (s : List Nat), s ∈ subsN n ↔ s.Sublist (List.range n)
  | 0, s => by
    rw [show List.range 0 = [] from rfl, List.sublist_nil]
    simp [subsN]
  | n + 1, s => by
    rw [subsN, List.mem_append, subs_mem n, List.range_succ, List.sublist_append_iff]
    constructor
    · rintro (h | h)
      · exact ⟨s, [], by simp, h, by simp⟩
      · obtain ⟨a, ha, rfl⟩ := List.mem_map.mp h
        exact ⟨a, [n], rfl, (subs_mem n a).mp ha, List.Sublist.refl _⟩
    · rintro ⟨a, b, rfl, ha, hb⟩
      cases hb with
      | cons _ h =>
        rw [List.sublist_nil.mp h, List.append_nil]
        exact .inl ha
      | cons_cons _ h =>
        rw [List.sublist_nil.mp h]
        exact .inr (List.mem_map.mpr ⟨a, (subs_mem n a).mpr ha, rfl⟩)
theorem subs_len : ∀ n, (subsN n).length = 2 ^ n
  | 0 => rfl
  | n + 1 => by
    rw [subsN, List.length_append, List.length_map, subs_len n, Nat.pow_succ]
    omega
theorem subs_in {n : Nat} {s : List Nat} (h : s ∈ subsN n) : s.length ≤ n := by
  have := ((subs_mem n s).mp h).length_le
  rwa [List.length_range] at this
def spSubs : Sp := fun vs H Q _ => ∃ n : Nat, vs = [.int n] ∧ n ≤ 8 ∧ ∀ H' l us, Same H H' → H' l = some (.lst us) → Nats H' us (subsN n) → Q (.ref l) H'
section
variable {P : Program} {w : World} {K : PySem.W.Frag} {mg : Str → Option Value} {base : Heap}
abbrev nSubs : List Str := ["_law_count", "_law_found", "_law_at", "_law_some"]
theorem scSubs : FnScope nSubs ["_law_count"] (defScope sSubs) := ⟨rfl, rfl, rfl, by decide +kernel, rfl, by decide +kernel, by decide +kernel⟩
theorem ok_subs {f : Addr} {fd : FuncData} (F : Fun K "_law_subsets" "_law_subsets" sSubs f fd) (T : Ct mg) : FnOk P w K mg base C8.CX0 1 f fd ["_law_count"] spSubs := by
  refine F.ok scSubs (fun vs H Q E h => ?_) (fun cdv A outer s H vs Q E hr h => ?_)
  · obtain ⟨n, rfl, _⟩ := h
    rfl
  · obtain ⟨n, rfl, h8, k⟩ := h
    refine ⟨_, pss_cons (ps_set (i := 1) scSubs.nd rfl (by first | exact Or.inl rfl | exact Or.inr rfl) (pe_lst (pa_cons (pe_lst pa_nil) pa_nil)))
      (pss_cons (ps_for PassesOwn.never rfl (pi_range1 rfl T.range (pa_cons (pv 0) pa_nil)) (pg_name (i := 2) scSubs.nd rfl (by first | exact Or.inl rfl | exact Or.inr rfl))
        (pss_one (ps_set (i := 1) scSubs.nd rfl (by first | exact Or.inl rfl | exact Or.inr rfl) (pe_op op_cat (pv 1) (pe_lc (own := [("_law_some", 3)]) (g := gName 3) (tt := tYes) rfl scSubs.nd (pi_list (pv 1)) (blkOk_by (N := nSubs) (sc := defScope sSubs) (by decide +kernel)) (fun _ _ _ _ _ => pg_name (i := 3) scSubs.nd rfl (by first | exact Or.inl rfl | exact Or.inr rfl)) (fun _ _ _ _ _ => pts_nil)
            (fun _ _ _ _ _ => pe_op op_cat (pv 3) (pe_lst (pa_cons (pv 2) pa_nil))))))))
      (pss_one (ps_ret (pv 1)))), ?_⟩
    refine ⟨(by show 0 ≤ sizeLine; decide), fun a0 h0 => ⟨(by show 1 ≤ sizeLine; decide), fun l hl => ?_⟩⟩
    have m1 := Same.new (o := .lst []) (Same.refl H) h0
    have m2 := m1.trans (Same.new (o := .lst [.ref a0]) (Same.refl _) hl)
    have f0 := Same.new (o := .lst [.ref a0]) (Same.refl _) hl _ _ (upd_same (H := H) (a := a0) (o := .lst []))
    refine ⟨_, rfl, n, rfl, by omega, by omega, for_range (lo := 0) (n := n) (fun i σ H' => ∃ (l : Addr) (v2 v3 : Option V) (us : List V), σ = [some (.int n), some (.ref l), v2, v3] ∧ Same H H' ∧ H' l = some (.lst us) ∧ Nats H' us (subsN i))
      ⟨l, none, none, [.ref a0], rfl, m2, upd_same, .cons ⟨a0, rfl, f0⟩ .nil⟩ ?_ ?_⟩
    · rintro i σ Hx hi ⟨l, v2, v3, us, rfl, sx, el, hu⟩
      have hul : us.length = 2 ^ i := by rw [each_len hu, subs_len]
      have pow : (2 : Nat) ^ i ≤ 2 ^ 8 := Nat.pow_le_pow_right (by decide) (by omega)
      refine ⟨_, rfl, _, rfl, l, rfl, ⟨us, SqL.of el⟩, fun D hD => ?_⟩
      have nlD : l ≠ D := ne_of_none el hD
      refine lc_list (K := K) (a := l) (xs := us) (fun j H' => Same Hx H' ∧ ∃ ys, H' D = some (.lst ys) ∧ EachIs (NatD D H') ys (((subsN i).map fun s => s ++ [i]).take j))
        ⟨Same.new (Same.refl _) hD, [], upd_same, by rw [List.take_zero]; exact .nil⟩ (fun j H' _ h => SqL.of (h.1 _ _ el)) ?_ ?_
      · rintro j x Hy hj ⟨sy, ys, eD, hys⟩
        obtain ⟨is, his, a, rfl, ha⟩ := K1.each_at hu hj
        have hjl := (List.getElem?_eq_some_iff.mp his).1
        have hil := subs_in (List.mem_of_getElem? his)
        refine ⟨rfl, _, rfl, _, rfl, (by show 1 ≤ sizeLine; decide), fun q1 h1 => ?_⟩
        have k1 := Same.new (o := .lst [.int (0 + (i : Int))]) (Same.refl Hy) h1
        refine ⟨a, q1, _, _, rfl, rfl, k1 _ _ (sy _ _ ha), upd_same, by rw [List.length_map, sizeLine_eq]; simp; omega, fun q2 h2 => ?_⟩
        have k2 := k1.trans (Same.new (o := .lst ((is.map fun n : Nat => V.int n) ++ [.int (0 + (i : Int))])) (Same.refl _) h2)
        have eD2 := k2 _ _ eD
        have f2 := upd_same (H := upd Hy q1 (.lst [.int (0 + (i : Int))])) (a := q2) (o := .lst ((is.map fun n : Nat => V.int n) ++ [.int (0 + (i : Int))]))
        generalize hH2 : upd (upd Hy q1 (.lst [.int (0 + (i : Int))])) q2 (.lst ((is.map fun n : Nat => V.int n) ++ [.int (0 + (i : Int))])) = H2 at k2 eD2 f2 ⊢
        have n2 : q2 ≠ D := fun z => by
          have := k1 _ _ eD
          rw [← z, h2] at this
          cases this
        have hyl : ys.length ≤ 1000 := by
          have e := each_len hys
          rw [List.length_take, List.length_map, subs_len] at e
          omega
        refine ⟨ys, eD2, by rw [sizeLine_eq]; omega, fun b o e => ?_, ys ++ [.ref q2], upd_same, ?_⟩
        · rw [upd_ne (ne_of_none e hD)]
          exact k2 _ _ (sy _ _ e)
        · have e1 : ((subsN i).map fun s => s ++ [i])[j]? = some (is ++ [i]) := by rw [List.getElem?_map, his]; rfl
          rw [take_snoc e1]
          have new : NatD D H2 (.ref q2) (is ++ [i]) := by
            refine ⟨q2, rfl, ?_, n2⟩
            rw [f2, List.map_append]
            simp
          exact each_app (R := NatD D (upd H2 D (.lst (ys ++ [.ref q2])))) new.off (each_mono (fun _ _ h => (NatD.same k2 h).off) hys)
      · rintro Hy ⟨sy, ys, eD, hys⟩
        have hml : ((subsN i).map fun s => s ++ [i]).length = us.length := by rw [List.length_map, subs_len, hul]
        rw [← hml, List.take_length] at hys
        have hyl : ys.length ≤ 1000 := by
          have e := each_len hys
          rw [List.length_map, subs_len] at e
          omega
        refine ⟨l, D, us, ys, rfl, rfl, sy _ _ el, eD, by rw [sizeLine_eq]; omega, fun p hp => ?_⟩
        have k1 := Same.new (o := .lst (us ++ ys)) (Same.refl Hy) hp
        refine ⟨p, _, _, us ++ ys, rfl, sx.trans (sy.trans k1), upd_same, ?_⟩
        exact each_app2 (hu.same (sy.trans k1)) (each_mono (fun _ _ h => h.v.same k1) hys)
    · rintro σ Hx ⟨l, v2, v3, us, rfl, sx, el, hu⟩
      exact ⟨_, rfl, k Hx l us sx el hu⟩
end
end K1
set_option Elab.async false
set_option linter.all false
set_option maxRecDepth 100000
set_option maxHeartbeats 2000000
namespace K1
open PySem PySem.Spec PyProof.Rows L2
open PySem.W (EachIs)
abbrev sPl : Stmt := topS 61
def plIn (n a : Nat) (j : Nat) : List (List Nat) := (List.range j).flatMap fun k => if k + 2 < n then [List.range' a (k + 2)] else []
def plAll (n : Nat) (i : Nat) : List (List Nat) := (List.range i).flatMap fun a => plIn n a (n - 1 - a)
def plF (n : Nat) (s : List Nat) : Bool := decide (1 < s.length) && decide (s.length < n)
def PlaceOk (L : List Ln) (g : G) (s : List Nat) : Prop := ∃ h ps, g = .t (.s h :: ps) ∧ ((kindOf L h = "heap" ∧ s ∈ (subsN ps.length).filter (plF ps.length)) ∨ (kindOf L h = "row" ∧ s ∈ plAll ps.length ps.length))
theorem flat_leN {α β : Type} {f : α → List β} {c : Nat} : ∀ {l : List α}, (∀ x ∈ l, (f x).length ≤ c) → (l.flatMap f).length ≤ c * l.length
  | [], _ => by simp
  | x :: l, h => by
    have h1 := flat_leN (l := l) fun y hy => h y (List.mem_cons_of_mem _ hy)
    have h2 := h x List.mem_cons_self
    rw [List.flatMap_cons, List.length_append, List.length_cons, Nat.mul_add]
    omega
theorem plIn_len (n a j : Nat) : (plIn n a j).length ≤ j := by
  have := flat_leN (f := fun k => if k + 2 < n then [List.range' a (k + 2)] else []) (c := 1) (l := List.range j) fun k _ => by
    split <;> simp
  rw [List.length_range, Nat.one_mul] at this
  exact this
theorem plAll_len {n i : Nat} (hn : n ≤ 8) (hi : i ≤ 8) : (plAll n i).length ≤ 64 := by
  have := flat_leN (f := fun a => plIn n a (n - 1 - a)) (c := 8) (l := List.range i) fun k _ => by
    have := plIn_len n k (n - 1 - k)
    omega
  rw [List.length_range] at this
  unfold plAll
  omega
theorem rangeN_snoc (f : Nat → List (List Nat)) (i : Nat) : (List.range (i + 1)).flatMap f = (List.range i).flatMap f ++ f i := by
  rw [List.range_succ, List.flatMap_append]
  simp
def spPl (K : PySem.W.Frag) : Sp := fun vs H Q _ => ∃ (ka : Addr) (L : List Ln) (v : V) (g : G), vs = [.ref ka, v] ∧ H ka = some (.dK (kd L)) ∧ In K H v g ∧ wfn L g = true ∧ wide g ≤ 8 ∧
  ∀ H' l us ss, Same H H' → H' l = some (.lst us) → Nats H' us ss → ss.length ≤ 300 → (∀ s, s ∈ ss ↔ PlaceOk L g s) → Q (.ref l) H'
section
variable {P : Program} {w : World} {K : PySem.W.Frag} {mg : Str → Option Value} {base : Heap}
abbrev nPl : List Str := ["_law_kinds_here", "_law_tree", "_law_count", "_law_found", "_law_at", "_law_some", "_law_end"]
theorem scPl : FnScope nPl ["_law_kinds_here", "_law_tree"] (defScope sPl) := ⟨rfl, rfl, rfl, by decide +kernel, rfl, by decide +kernel, by decide +kernel⟩
theorem ok_pl {f : Addr} {fd : FuncData} (F : Fun K "_law_own_places" "_law_own_places" sPl f fd) (DS : Df P w K mg base C8.CX0 "_law_subsets" 1 ["_law_count"] spSubs) (T : Ct mg) : FnOk P w K mg base C8.CX0 2 f fd ["_law_kinds_here", "_law_tree"] (spPl K) := by
  refine F.ok scPl (fun vs H Q E h => ?_) (fun cdv A outer s H vs Q E hr h => ?_)
  · obtain ⟨ka, L, v, g, rfl, _⟩ := h
    rfl
  · obtain ⟨ka, L, v, g, rfl, hka, hin, hw, hw8, k⟩ := h
    have hu' := hu_of hr
    refine ⟨_, pss_cons (ps_if (pt_val (pe_callB call_isi (by rfl) T.isi boot_isinstance (pa_cons (pv 1) (pa_cons (pe_bltn (v := .ty "str") (by rfl) T.str boot_str rfl) pa_nil)))) (pss_one (ps_ret (pe_lst pa_nil))) pss_nil)
      (pss_cons (ps_set (i := 2) scPl.nd rfl (by first | exact Or.inl rfl | exact Or.inr rfl) (pe_op op_sub (pe_callB call_len (by rfl) T.len PySem.boot_len (pa_cons (pv 1) pa_nil)) pe_int))
      (pss_cons (ps_if (pt_cmpR op_eq (pe_dget hu' (pv 0) (pe_ix ix_tup (pv 1) pe_int (fun _ _ => rfl)) (fun _ _ => rfl)) pe_str (nomark _))
        (pss_one (ps_ret (pe_lc (own := [("_law_some", 5)]) (g := gName 5) rfl scPl.nd (pi_list (pe_df DS hr pass0 (pa_cons (pv 2) pa_nil))) (blkOk_by (N := nPl) (sc := defScope sPl) (by decide +kernel)) (fun _ _ _ _ _ => pg_name (i := 5) scPl.nd rfl (by first | exact Or.inl rfl | exact Or.inr rfl))
          (fun _ _ _ _ _ => pts_one (pt_chain op_lt op_lt pe_int (pe_callB (show CallR _ _ (fun xs H Q => ∃ x n, xs = [x] ∧ LenV K x H n ∧ Q (V.int (n : Nat)) H) from call_len) (by rfl) T.len PySem.boot_len (pa_cons (pv 5) pa_nil)) (pv 2))) (fun _ _ _ _ _ => pv 5)))) pss_nil)
      (pss_cons (ps_set (i := 3) scPl.nd rfl (by first | exact Or.inl rfl | exact Or.inr rfl) (pe_lst pa_nil))
      (pss_cons (ps_if (pt_cmpR op_eq (pe_dget hu' (pv 0) (pe_ix ix_tup (pv 1) pe_int (fun _ _ => rfl)) (fun _ _ => rfl)) pe_str (nomark _))
        (pss_one (ps_for PassesOwn.never rfl (pi_range1 rfl T.range (pa_cons (pv 2) pa_nil)) (pg_name (i := 4) scPl.nd rfl (by first | exact Or.inl rfl | exact Or.inr rfl))
          (pss_one (ps_set (i := 3) scPl.nd rfl (by first | exact Or.inl rfl | exact Or.inr rfl) (pe_op op_cat (pv 3) (pe_lc (own := [("_law_end", 6)]) (g := gName 6) rfl scPl.nd (pi_range2 rfl T.range (pa_cons (pe_op op_add (pv 4) pe_int) (pa_cons (pe_op op_add (pv 2) pe_int) pa_nil))) (blkOk_by (N := nPl) (sc := defScope sPl) (by decide +kernel)) (fun _ _ _ _ _ => pg_name (i := 6) scPl.nd rfl (by first | exact Or.inl rfl | exact Or.inr rfl))
            (fun _ _ _ _ _ => pts_one (pt_cmpR op_lt (pe_op op_sub (pv 6) (pv 4)) (pv 2) (nomark _))) (fun _ _ _ _ _ => pe_listRg rfl (by rfl) T.list (prg_2 (by rfl) T.range (pv 4) (pv 6))))))))) pss_nil)
      (pss_one (ps_ret (pv 3))))))), ?_⟩
    have hs := wfn_shp (dp g) g (Nat.le_refl _) hw
    obtain ⟨d, y1, y2⟩ := isi_str hin
    refine ⟨_, rfl, _, _, _, _, _, rfl, .ty "str", y1, y2, _, rfl, ?_⟩
    rcases shp_cases hs with ⟨x, rfl⟩ | ⟨x, ps, rfl, hp⟩
    · refine iteT ⟨(by show 0 ≤ sizeLine; decide), fun l hl => ?_⟩
      exact k _ l [] [] (Same.new (Same.refl H) hl) upd_same .nil (by simp) fun s => ⟨fun z => absurd z (by simp), fun ⟨_, _, z, _⟩ => by cases z⟩
    · refine iteF ?_
      obtain ⟨a, xs, rfl, hx, hg⟩ := hin.tup
      obtain ⟨v0, e0, h0⟩ := hg.get (i := 0) rfl
      obtain rfl := h0.str
      have hw' := hw
      rw [wfn_t, Bool.and_eq_true, List.all_eq_true] at hw'
      obtain ⟨ln, hfi⟩ := Option.isSome_iff_exists.mp hw'.1
      have ek : kindOf L x = ln.2.1 := kindOf_of hfi
      have hkv : valV (kd L) (Sum.inr x : Key) = some (.str ln.2.1) := by rw [kd_val, hfi]; rfl
      have hlen := hg.len
      have h8 : ps.length ≤ 8 := by
        rw [wide_t] at hw8
        omega
      have hxl : ((xs.length : Int) - 1) = ((ps.length : Nat) : Int) := by rw [hlen]; simp
      refine ⟨_, rfl, .ref a, xs.length, rfl, .inr ⟨xs, hx, rfl⟩, _, _, rfl, rfl, ?_⟩
      refine ⟨_, rfl, _, rfl, a, xs, 0, _, rfl, rfl, hx, atI_nat (j := 0) e0, ka, _, rfl, .inl ⟨kd L, .inr x, .inl hka, rfl, hkv.symm⟩, rfl, _, rfl, ?_⟩
      refine ite2 (fun hk => ?_) (fun hk => ?_)
      · have hk' : ln.2.1 = "heap" := by simpa using of_decide_eq_true hk
        refine ⟨_, rfl, ps.length, (by show [V.int ((xs.length : Int) - 1)] = _; rw [hxl]), h8, fun H1 l us s1 el hu => ?_⟩
        refine ⟨l, rfl, ⟨us, SqL.of el⟩, fun D hD => ?_⟩
        have hul := each_len hu
        have few : (subsN ps.length).length ≤ 256 := by
          rw [subs_len]
          exact Nat.pow_le_pow_right (n := 2) (by decide) h8
        refine lc_list (K := K) (a := l) (xs := us) (fun i H' => Same H1 H' ∧ ∃ ys, H' D = some (.lst ys) ∧ Nats H1 ys (((subsN ps.length).take i).filter (plF ps.length)))
          ⟨Same.new (Same.refl _) hD, [], upd_same, .nil⟩ (fun i H' _ h => SqL.of (h.1 _ _ el)) ?_ ?_
        · rintro i y Hy hi ⟨sy, ys, eD, hys⟩
          obtain ⟨is, his, b, rfl, hb⟩ := K1.each_at hu hi
          have hyl : ys.length ≤ 256 := by
            have e := each_len hys
            have e2 := List.length_filter_le (plF ps.length) ((subsN ps.length).take i)
            rw [List.length_take] at e2
            omega
          have snoc : ((subsN ps.length).take (i + 1)).filter (plF ps.length) = ((subsN ps.length).take i).filter (plF ps.length) ++ (if plF ps.length is = true then [is] else []) := by
            rw [take_snoc his, List.filter_append]
            congr 1
            by_cases z : plF ps.length is = true
            · rw [if_pos z, List.filter_cons_of_pos z]; rfl
            · rw [if_neg z, List.filter_cons_of_neg z]; rfl
          have stay : ¬ plF ps.length is = true → Same H1 Hy ∧ ∃ ys, Hy D = some (.lst ys) ∧ Nats H1 ys (((subsN ps.length).take (i + 1)).filter (plF ps.length)) := fun z => ⟨sy, ys, eD, by rw [snoc, if_neg z, List.append_nil]; exact hys⟩
          refine ⟨rfl, _, rfl, .ref b, is.length, rfl, .inl ⟨_, SqL.of (sy _ _ hb), by rw [List.length_map]⟩, _, _, rfl, rfl, _, rfl, ?_⟩
          refine ite2 (fun h1 => ?_) (fun h1 => ?_)
          · have h1' : 1 < is.length := by
              have := of_decide_eq_true h1
              omega
            refine ⟨_, rfl, _, _, rfl, rfl, _, rfl, ?_⟩
            refine ite2 (fun h2 => ?_) (fun h2 => ?_)
            · have h2' : is.length < ps.length := by
                have := of_decide_eq_true h2
                omega
              have hok : plF ps.length is = true := by unfold plF; rw [decide_eq_true h1', decide_eq_true h2']; rfl
              refine ⟨_, rfl, ys, eD, by rw [sizeLine_eq]; omega, fun bb o e => ?_, ys ++ [.ref b], upd_same, ?_⟩
              · rw [upd_ne (ne_of_none e hD)]
                exact sy _ _ e
              · rw [snoc, if_pos hok]
                exact each_app (R := NatV H1) ⟨b, rfl, hb⟩ hys
            · refine stay fun z => ?_
              unfold plF at z
              rw [Bool.and_eq_true_iff] at z
              exact h2 (decide_eq_true (by have := of_decide_eq_true z.2; omega))
          · have : ¬ plF ps.length is = true := fun z => by
              unfold plF at z
              rw [Bool.and_eq_true_iff] at z
              exact h1 (decide_eq_true (by have := of_decide_eq_true z.1; omega))
            exact ⟨false, rfl, stay this⟩
        · rintro Hy ⟨sy, ys, eD, hys⟩
          rw [hul, List.take_length] at hys
          refine k Hy D ys _ (s1.trans sy) eD (hys.same sy) (Nat.le_trans (List.length_filter_le _ _) (by omega)) fun s => ?_
          constructor
          · exact fun z => ⟨x, ps, rfl, .inl ⟨by rw [ek, hk'], z⟩⟩
          · rintro ⟨h', ps', e, z⟩
            cases e
            rcases z with ⟨_, z⟩ | ⟨z, _⟩
            · exact z
            · rw [ek, hk'] at z
              exact absurd z (by decide +kernel)
      · have hk' : ¬ ln.2.1 = "heap" := fun z => hk (decide_eq_true (by rw [z]))
        refine ⟨(by show 0 ≤ sizeLine; decide), fun l hl => ?_⟩
        have s1 := Same.new (o := .lst []) (Same.refl H) hl
        refine ⟨_, rfl, _, rfl, a, xs, 0, _, rfl, rfl, sqt_same s1 hx, atI_nat (j := 0) e0, ka, _, rfl, .inl ⟨kd L, .inr x, .inl (s1 _ _ hka), rfl, hkv.symm⟩, rfl, _, rfl, ?_⟩
        refine ite2 (fun hr' => ?_) (fun hr' => ?_)
        · have hr'' : ln.2.1 = "row" := by simpa using of_decide_eq_true hr'
          refine ⟨_, rfl, ps.length, (by show [V.int ((xs.length : Int) - 1)] = _; rw [hxl]), by omega, by omega, for_range (lo := 0) (n := ps.length) (fun i σ H' => ∃ (l : Addr) (v4 v5 v6 : Option V) (us : List V), σ = [some (.ref ka), some (.ref a), some (.int ((xs.length : Int) - 1)), some (.ref l), v4, v5, v6] ∧ Same H H' ∧ H' l = some (.lst us) ∧ Nats H' us (plAll ps.length i))
            ⟨l, none, none, none, [], rfl, s1, upd_same, .nil⟩ ?_ ?_⟩
          · rintro i σ Hx hi ⟨l, v4, v5, v6, us, rfl, sx, el, hu⟩
            have hul := each_len hu
            have pl := plAll_len (n := ps.length) (i := i) h8 (by omega)
            refine ⟨_, rfl, _, rfl, _, _, rfl, rfl, _, rfl, _, _, rfl, rfl, _, _, rfl, ⟨by omega, by omega, by omega, by omega⟩, ?_⟩
            rw [show ((((xs.length : Int) - 1) + 1) - ((0 + (i : Int)) + 2)).toNat = ps.length - 1 - i by omega]
            refine fun D hD => ?_
            have nlD : l ≠ D := ne_of_none el hD
            refine lc_range (lo := 0 + (i : Int) + 2) (n := ps.length - 1 - i) (fun j H' => Same Hx H' ∧ ∃ ys, H' D = some (.lst ys) ∧ EachIs (NatD D H') ys (plIn ps.length i j))
              ⟨Same.new (Same.refl _) hD, [], upd_same, .nil⟩ ?_ ?_
            · rintro j Hy hj ⟨sy, ys, eD, hys⟩
              refine ⟨rfl, _, rfl, _, rfl, _, _, rfl, rfl, _, rfl, _, _, rfl, rfl, _, rfl, ?_⟩
              refine ite2 (fun h1 => ?_) (fun h1 => ?_)
              · have hlt : j + 2 < ps.length := by
                  have := of_decide_eq_true h1
                  omega
                refine ⟨_, rfl, _, rfl, _, _, rfl, rfl, ⟨by omega, by omega, by omega, by omega, by omega⟩, fun q1 hq1 => ?_⟩
                have ev : rgV (0 + (i : Int)) (0 + (i : Int) + 2 + (j : Int)) = (List.range' i (j + 2)).map fun n : Nat => V.int n := by
                  unfold rgV
                  rw [show ((0 + (i : Int) + 2 + (j : Int)) - (0 + (i : Int))).toNat = j + 2 by omega, List.range'_eq_map_range, List.map_map]
                  refine List.map_congr_left fun m _ => ?_
                  show V.int (0 + (i : Int) + (m : Nat)) = V.int ((i + m : Nat) : Int)
                  congr 1
                  omega
                have k1 := Same.new (o := .lst (rgV (0 + (i : Int)) (0 + (i : Int) + 2 + (j : Int)))) (Same.refl Hy) hq1
                have f1 := upd_same (H := Hy) (a := q1) (o := .lst (rgV (0 + (i : Int)) (0 + (i : Int) + 2 + (j : Int))))
                have eD1 := k1 _ _ eD
                have n1 : q1 ≠ D := fun z => by
                  rw [z, eD] at hq1
                  cases hq1
                generalize upd Hy q1 (.lst (rgV (0 + (i : Int)) (0 + (i : Int) + 2 + (j : Int)))) = H1 at k1 f1 eD1 ⊢
                rw [ev] at f1
                have hyl : ys.length ≤ 100 := by
                  have e := each_len hys
                  have := plIn_len ps.length i j
                  omega
                refine ⟨ys, eD1, by rw [sizeLine_eq]; omega, fun bb o e => ?_, ys ++ [.ref q1], upd_same, ?_⟩
                · rw [upd_ne (ne_of_none e hD)]
                  exact k1 _ _ (sy _ _ e)
                · have e3 : plIn ps.length i (j + 1) = plIn ps.length i j ++ [List.range' i (j + 2)] := by
                    unfold plIn
                    rw [rangeN_snoc, if_pos hlt]
                  rw [e3]
                  have new : NatD D H1 (.ref q1) (List.range' i (j + 2)) := ⟨q1, rfl, f1, n1⟩
                  exact each_app (R := NatD D (upd H1 D (.lst (ys ++ [.ref q1])))) new.off (each_mono (fun _ _ h => (NatD.same k1 h).off) hys)
              · have hlt : ¬ j + 2 < ps.length := fun z => h1 (decide_eq_true (by omega))
                refine ⟨sy, ys, eD, ?_⟩
                have e3 : plIn ps.length i (j + 1) = plIn ps.length i j := by
                  unfold plIn
                  rw [rangeN_snoc, if_neg hlt, List.append_nil]
                rw [e3]
                exact hys
            · rintro Hy ⟨sy, ys, eD, hys⟩
              have hyl : ys.length ≤ 100 := by
                have e := each_len hys
                have := plIn_len ps.length i (ps.length - 1 - i)
                omega
              refine ⟨l, D, us, ys, rfl, rfl, sy _ _ el, eD, by rw [sizeLine_eq]; omega, fun p hp' => ?_⟩
              have k1 := Same.new (o := .lst (us ++ ys)) (Same.refl Hy) hp'
              refine ⟨p, _, _, _, us ++ ys, rfl, sx.trans (sy.trans k1), upd_same, ?_⟩
              have e3 : plAll ps.length (i + 1) = plAll ps.length i ++ plIn ps.length i (ps.length - 1 - i) := by
                unfold plAll
                rw [rangeN_snoc]
              rw [e3]
              exact each_app2 (hu.same (sy.trans k1)) (each_mono (fun _ _ h => h.v.same k1) hys)
          · rintro σ Hx ⟨l, v4, v5, v6, us, rfl, sx, el, hu⟩
            have pl := plAll_len (n := ps.length) (i := ps.length) h8 h8
            refine ⟨_, rfl, k Hx l us _ sx el hu (by omega) fun s => ?_⟩
            constructor
            · exact fun z => ⟨x, ps, rfl, .inr ⟨by rw [ek, hr''], z⟩⟩
            · rintro ⟨h', ps', e, z⟩
              cases e
              rcases z with ⟨z, _⟩ | ⟨_, z⟩
              · rw [ek, hr''] at z
                exact absurd z (by decide +kernel)
              · exact z
        · have hr'' : ¬ ln.2.1 = "row" := fun z => hr' (decide_eq_true (by rw [z]))
          refine ⟨_, rfl, k _ l [] [] s1 upd_same .nil (by simp) fun s => ⟨fun z => absurd z (by simp), ?_⟩⟩
          rintro ⟨h', ps', e, z⟩
          cases e
          rw [ek] at z
          rcases z with ⟨z, _⟩ | ⟨z, _⟩
          · exact absurd z hk'
          · exact absurd z hr''
end
end K1
set_option Elab.async false
set_option linter.all false
set_option maxRecDepth 100000
set_option maxHeartbeats 2000000
namespace K1
open PySem PySem.Spec PyProof.Rows L2
open PySem.W (EachIs)
abbrev sAll : Stmt := topS 62
def pickG (ps : List G) (s : List Nat) : List G := s.map fun i => ps.getD i (.s Str.empty)
theorem getD_at {ps : List G} {i : Nat} (h : i < ps.length) : ps.getD i (.s Str.empty) = ps[i] := by
  rw [List.getD_eq_getElem?_getD, List.getElem?_eq_getElem h]
  rfl
theorem fm_congr {α β : Type} {f g : α → List β} : ∀ {l : List α}, (∀ x ∈ l, f x = g x) → l.flatMap f = l.flatMap g
  | [], _ => rfl
  | x :: l, h => by rw [List.flatMap_cons, List.flatMap_cons, h x List.mem_cons_self, fm_congr fun y hy => h y (List.mem_cons_of_mem _ hy)]
theorem pick_all (ps : List G) : (List.range ps.length).map (fun i => ps.getD i (.s Str.empty)) = ps := by
  apply List.ext_getElem
  · simp
  · intro i h1 h2
    rw [List.getElem_map, List.getElem_range, getD_at h2]
theorem pick_range {ps : List G} {a m : Nat} (h : a + m ≤ ps.length) : pickG ps (List.range' a m) = (ps.drop a).take m := by
  unfold pickG
  apply List.ext_getElem
  · simp only [List.length_map, List.length_range', List.length_take, List.length_drop]
    omega
  · intro i h1 h2
    rw [List.getElem_map, List.getElem_range', List.getElem_take, List.getElem_drop]
    simp only [List.length_map, List.length_range'] at h1
    rw [getD_at (by omega)]
    congr 1
    omega
theorem gath_pick {h : Str} {ps : List G} {g : G} : GathG h ps g ↔ ∃ s ∈ (subsN ps.length).filter (plF ps.length), g = .t (.s h :: pickG ps s) := by
  constructor
  · rintro ⟨o, rfl, h1, h2, h3⟩
    rw [← pick_all ps] at h1
    obtain ⟨s, hs, rfl⟩ := List.sublist_map_iff.mp h1
    rw [List.length_map] at h2 h3
    refine ⟨s, List.mem_filter.mpr ⟨(subs_mem _ _).mpr hs, ?_⟩, rfl⟩
    unfold plF
    rw [decide_eq_true h2, decide_eq_true h3]
    rfl
  · rintro ⟨s, hs, rfl⟩
    obtain ⟨h1, h2⟩ := List.mem_filter.mp hs
    unfold plF at h2
    simp only [Bool.and_eq_true, decide_eq_true_iff] at h2
    refine ⟨_, rfl, ?_, by unfold pickG; rw [List.length_map]; exact h2.1, by unfold pickG; rw [List.length_map]; exact h2.2⟩
    have := ((subs_mem _ _).mp h1).map fun i => ps.getD i (.s Str.empty)
    rw [pick_all] at this
    exact this
theorem nb_pick {h : Str} {ps : List G} : ∀ {i : Nat}, i ≤ ps.length → nbAll h ps i = (plAll ps.length i).map fun s => .t (.s h :: pickG ps s) := fun {i} hi => by
  unfold nbAll plAll
  rw [List.map_flatMap]
  refine fm_congr fun a ha => ?_
  have ha' := List.mem_range.mp ha
  unfold nbIn plIn
  rw [List.map_flatMap]
  refine fm_congr fun k hk => ?_
  have hk' := List.mem_range.mp hk
  by_cases z : k + 2 < ps.length
  · rw [if_pos z, if_pos z, List.map_cons, List.map_nil, pick_range (by omega)]
  · rw [if_neg z, if_neg z]; rfl
theorem place_own {L : List Ln} {h : Str} {ps : List G} {g' : G} : Own L (.t (.s h :: ps)) g' ↔ g' = .t (.s h :: ps) ∨ ∃ s, PlaceOk L (.t (.s h :: ps)) s ∧ g' = .t (.s h :: pickG ps s) := by
  unfold Own
  refine or_congr Iff.rfl ?_
  constructor
  · rintro ⟨h', ps', e, z⟩
    cases e
    rcases z with ⟨z1, z2⟩ | ⟨z1, z2⟩
    · rw [nb_pick (Nat.le_refl _)] at z2
      obtain ⟨s, hs, rfl⟩ := List.mem_map.mp z2
      exact ⟨s, ⟨h, ps, rfl, .inr ⟨z1, hs⟩⟩, rfl⟩
    · obtain ⟨s, hs, rfl⟩ := gath_pick.mp z2
      exact ⟨s, ⟨h, ps, rfl, .inl ⟨z1, hs⟩⟩, rfl⟩
  · rintro ⟨s, ⟨h', ps', e, z⟩, rfl⟩
    cases e
    refine ⟨h, ps, rfl, ?_⟩
    rcases z with ⟨z1, z2⟩ | ⟨z1, z2⟩
    · exact .inr ⟨z1, gath_pick.mpr ⟨s, z2, rfl⟩⟩
    · exact .inl ⟨z1, by rw [nb_pick (Nat.le_refl _)]; exact List.mem_map.mpr ⟨s, z2, rfl⟩⟩
theorem place_lt {L : List Ln} {h : Str} {ps : List G} {s : List Nat} (hs : PlaceOk L (.t (.s h :: ps)) s) : (∀ i ∈ s, i < ps.length) ∧ s.length ≤ ps.length := by
  obtain ⟨h', ps', e, z⟩ := hs
  cases e
  rcases z with ⟨_, z⟩ | ⟨_, z⟩
  · have := (subs_mem _ _).mp (List.mem_filter.mp z).1
    exact ⟨fun i hi => List.mem_range.mp (this.subset hi), subs_in (List.mem_filter.mp z).1⟩
  · obtain ⟨a, ha, z⟩ := List.mem_flatMap.mp z
    obtain ⟨k, hk, z⟩ := List.mem_flatMap.mp z
    have ha' := List.mem_range.mp ha
    have hk' := List.mem_range.mp hk
    split at z
    · rw [List.mem_singleton.mp z]
      refine ⟨fun i hi => ?_, by rw [List.length_range']; omega⟩
      have := List.mem_range'_1.mp hi
      omega
    · exact absurd z (by simp)
def spAll (K : PySem.W.Frag) (n : Nat) : Sp := fun vs H Q _ => ∃ (ka : Addr) (L : List Ln) (v : V) (g : G), vs = [.ref ka, v] ∧ H ka = some (.dK (kd L)) ∧ In K H v g ∧ wfn L g = true ∧ wide g ≤ 8 ∧ dp g ≤ n ∧ points g ≤ 90 ∧
  ∀ H' l us gs, Same H H' → H' l = some (.lst us) → InL K H' us gs → gs.length ≤ 400 * points g → (∀ g', g' ∈ gs ↔ See L g g') → Q (.ref l) H'
section
variable {P : Program} {w : World} {K : PySem.W.Frag} {mg : Str → Option Value} {base : Heap}
abbrev nAll : List Str := ["_law_kinds_here", "_law_tree", "_law_found", "_law_part", "_law_places", "_law_at"]
def scPl2 : Scope := { kind := .function, names := [(".0", .local), ("_law_places", .local), ("tuple", .globalImplicit), ("_law_tree", .cell)], isGenerator := false, isCoroutine := false }
def scPl3 : Scope := { kind := .function, names := [(".0", .local), ("_law_at", .local), ("_law_tree", .free)], isGenerator := false, isCoroutine := false }
theorem scAll : FnScope nAll ["_law_kinds_here", "_law_tree"] (defScope sAll) := ⟨rfl, rfl, rfl, by decide +kernel, rfl, by decide +kernel, by decide +kernel⟩
theorem ok_all {f : Addr} {fd : FuncData} {n m : Nat} (F : Fun K "_law_all_seen" "_law_all_seen" sAll f fd) (IH : Df P w K mg base C8.CX0 "_law_all_seen" m ["_law_kinds_here", "_law_tree"] (spAll K n)) (DP : Df P w K mg base C8.CX0 "_law_own_places" 2 ["_law_kinds_here", "_law_tree"] (spPl K)) (T : Ct mg) (hm : 2 ≤ m) : FnOk P w K mg base C8.CX0 (m + 1) f fd ["_law_kinds_here", "_law_tree"] (spAll K (n + 1)) := by
  refine F.ok scAll (fun vs H Q E h => ?_) (fun cdv A outer s H vs Q E hr h => ?_)
  · obtain ⟨ka, L, v, g, rfl, _⟩ := h
    rfl
  · obtain ⟨ka, L, v, g, rfl, hka, hin, hw, hw8, hd, hpt, k⟩ := h
    refine ⟨_, pss_cons (ps_set (i := 2) scAll.nd rfl (by first | exact Or.inl rfl | exact Or.inr rfl) (pe_lst (pa_cons (pv 1) pa_nil)))
      (pss_cons (ps_if (pt_val (pe_callB call_isi (by rfl) T.isi boot_isinstance (pa_cons (pv 1) (pa_cons (pe_bltn (v := .ty "str") (by rfl) T.str boot_str rfl) pa_nil)))) (pss_one (ps_ret (pv 2))) pss_nil)
      (pss_cons (ps_for PassesOwn.never rfl (pi_tup (pe_slice sl_tup (pv 1) (po_some pe_int) po_none)) (pg_name (i := 3) scAll.nd rfl (by first | exact Or.inl rfl | exact Or.inr rfl))
        (pss_one (ps_set (i := 2) scAll.nd rfl (by first | exact Or.inl rfl | exact Or.inr rfl) (pe_op op_cat (pv 2) (pe_df IH hr pass0 (pa_cons (pv 0) (pa_cons (pv 3) pa_nil)) (Nat.le_refl _))))))
      (pss_one (ps_ret (pe_op op_cat (pv 2) (pe_lc (own := [("_law_places", 4)]) (g := gName 4) (tt := tYes) rfl scAll.nd (pi_list (pe_df DP (hr.mono hm) pass0 (pa_cons (pv 0) (pa_cons (pv 1) pa_nil)))) (blkOk_by (N := nAll) (sc := defScope sAll) (by decide +kernel)) (fun _ _ _ _ _ => pg_name (i := 4) scAll.nd rfl (by first | exact Or.inl rfl | exact Or.inr rfl)) (fun _ _ _ _ _ => pts_nil)
        (fun _ _ _ _ _ => pe_op (show OpR _ _ (rCatT K) from op_catT) (pe_tup (pa_cons (pe_ix (show IxR _ (rIxT K) from ix_tup) (pv 1) pe_int (fun _ _ => rfl)) pa_nil)) (pe_callTy (show CallR _ _ (fun xs H Q => ∃ p ys, xs = [.ref p] ∧ ((SqL K H p ys ∧ ∀ t, H t = none → Q (.ref t) (upd H t (.tup ys))) ∨ (SqT K H p ys ∧ Q (.ref p) H))) from call_tuple_of) (by rfl) T.tuple boot_tuple (pa_cons
          (pe_lc (own := [("_law_at", 5)]) (g := gName 5) (tt := tYes) rfl scAll.nd (show PI _ _ _ (iList K (tVar 4)) from pi_list (pv 4)) (show BlkOk nAll scPl2 scPl3 [("_law_at", 5)] from blkOk_by (N := nAll) (sc := scPl2) (by decide +kernel)) (fun _ _ _ _ _ => pg_name (i := 5) scAll.nd rfl (by first | exact Or.inl rfl | exact Or.inr rfl)) (fun _ _ _ _ _ => pts_nil)
            (fun _ _ _ _ _ => pe_ix (show IxR _ (rIxT K) from ix_tup) (pv 1) (pe_op op_add pe_int (pv 5)) (fun _ _ => rfl))) pa_nil))))))))), ?_⟩
    have hs := wfn_shp (dp g) g (Nat.le_refl _) hw
    refine ⟨_, rfl, (by show 1 ≤ sizeLine; decide), fun l hl => ?_⟩
    have s1 := Same.new (o := .lst [v]) (Same.refl H) hl
    obtain ⟨d, y1, y2⟩ := isi_str (hin.same s1)
    refine ⟨_, rfl, _, _, _, _, _, rfl, .ty "str", y1, y2, _, rfl, ?_⟩
    rcases shp_cases hs with ⟨x, rfl⟩ | ⟨x, ps, rfl, hp⟩
    · refine iteT ⟨_, rfl, k _ l [v] [.s x] s1 upd_same (.cons (hin.same s1) .nil) ?_ fun g' => ?_⟩
      · have : points (.s x) = 1 := by simp [points]
        rw [this]; simp
      · rw [List.mem_singleton, see_s]
    · refine iteF ?_
      obtain ⟨a, xs, rfl, hx, hg⟩ := hin.tup
      obtain ⟨v0, e0, h0⟩ := hg.get (i := 0) rfl
      obtain rfl := h0.str
      have hw' := hw
      rw [wfn_t, Bool.and_eq_true, List.all_eq_true] at hw'
      have hlen := hg.len
      have hxl : xs.length = ps.length + 1 := by rw [hlen]; rfl
      have h8 : ps.length ≤ 8 ∧ ∀ p ∈ ps, wide p ≤ 8 := by
        rw [wide_t] at hw8
        exact ⟨by omega, fun p hp' => by have := le_maxl (List.mem_map.mpr ⟨p, hp', rfl⟩ : wide p ∈ ps.map wide); omega⟩
      have eptp : points (.t (.s x :: ps)) = 1 + (ps.map points).sum := points_t _ _
      have shpW : ∀ g', See L (.t (.s x :: ps)) g' → shp g' = true := fun g' z => see_shp z hs
      refine ⟨_, rfl, _, rfl, a, xs, rfl, sqt_same s1 hx, whole_1 (ne_nil hg), fun q hq => ⟨q, rfl, ⟨_, SqT.of upd_same⟩, ?_⟩⟩
      have s2 := s1.trans (Same.new (o := .tup (cutV xs (some 1) none)) (Same.refl _) hq)
      have el2 := Same.new (o := .tup (cutV xs (some 1) none)) (Same.refl _) hq _ _ (upd_same (H := H) (a := l) (o := .lst [.ref a]))
      have eq2 := upd_same (H := upd H l (.lst [.ref a])) (a := q) (o := .tup (cutV xs (some 1) none))
      have hcut : cutV xs (some 1) none = xs.drop 1 := cut_1 xs
      rw [hcut] at eq2 s2 el2 ⊢
      generalize upd (upd H l (.lst [.ref a])) q (.tup (xs.drop 1)) = H2 at s2 el2 eq2 ⊢
      have hgd : InL K H2 (xs.drop 1) ps := (hg.same s2).drop 1
      have hdl : (xs.drop 1).length = ps.length := hgd.len
      refine for_tup (K := K) (a := q) (xs := xs.drop 1) (fun i σ H' => ∃ (l : Addr) (v3 v4 v5 : Option V) (us : List V) (gs : List G), σ = [some (.ref ka), some (.ref a), some (.ref l), v3, v4, v5] ∧ Same H2 H' ∧ H' l = some (.lst us) ∧ InL K H' us gs ∧ gs.length ≤ 1 + 400 * ((ps.take i).map points).sum ∧ (∀ g', g' ∈ gs ↔ g' = .t (.s x :: ps) ∨ ∃ r ∈ ps.take i, See L r g'))
        ⟨l, none, none, none, [.ref a], [.t (.s x :: ps)], rfl, Same.refl _, el2, .cons (hin.same s2) .nil, by simp, fun g' => by simp⟩ (fun i σ H' _ ⟨_, _, _, _, _, _, _, sm, _⟩ => SqT.of (sm _ _ eq2)) ?_ ?_
      · rintro i y σ Hx hi ⟨l, v3, v4, v5, us, gs, rfl, sx, el, hu, hgl, hm⟩
        obtain ⟨pi, hpi, hvi⟩ := hgd.at hi
        have hpm := List.mem_of_getElem? hpi
        have tki : ps.take (i + 1) = ps.take i ++ [pi] := take_snoc hpi
        have pts : ((ps.take (i + 1)).map points).sum = ((ps.take i).map points).sum + points pi := by
          rw [tki, List.map_append, List.sum_append]
          simp
        have ptle : (ps.map points).sum ≤ 89 := by omega
        have pl : ((ps.take i).map points).sum ≤ (ps.map points).sum := by
          have e4 : ps.map points = (ps.take i).map points ++ (ps.drop i).map points := by rw [← List.map_append, List.take_append_drop]
          rw [e4, List.sum_append]
          omega
        have pp := le_sum (List.mem_map.mpr ⟨pi, hpm, rfl⟩ : points pi ∈ ps.map points)
        refine ⟨_, rfl, _, rfl, _, rfl, ka, L, y, pi, rfl, sx _ _ (s2 _ _ hka), hvi.same sx, hw'.2 pi hpm, h8.2 pi hpm, dp_mem hd (List.mem_cons_of_mem _ hpm), by omega, fun H3 l3 us3 gs3 s3 el3 hu3 gl3 hm3 => ?_⟩
        have ul := hu.len
        have ul3 := hu3.len
        refine ⟨l, l3, us, us3, rfl, rfl, s3 _ _ el, el3, by rw [sizeLine_eq]; omega, fun p hp' => ?_⟩
        have k1 := Same.new (o := .lst (us ++ us3)) (Same.refl H3) hp'
        refine ⟨p, _, _, _, us ++ us3, gs ++ gs3, rfl, sx.trans (s3.trans k1), upd_same, (hu.same (s3.trans k1)).app (hu3.same k1), by rw [List.length_append, pts]; omega, fun g' => ?_⟩
        rw [List.mem_append, hm, hm3, tki]
        constructor
        · rintro ((z | ⟨r, z1, z2⟩) | z)
          · exact .inl z
          · exact .inr ⟨r, List.mem_append_left _ z1, z2⟩
          · exact .inr ⟨pi, List.mem_append_right _ (by simp), z⟩
        · rintro (z | ⟨r, z1, z2⟩)
          · exact .inl (.inl z)
          · rcases List.mem_append.mp z1 with z | z
            · exact .inl (.inr ⟨r, z, z2⟩)
            · rw [List.mem_singleton.mp z] at z2
              exact .inr z2
      · rintro σ Hx ⟨l, v3, v4, v5, us, gs, rfl, sx, el, hu, hgl, hm⟩
        rw [hdl, List.take_length] at hgl hm
        have sHx := s2.trans sx
        refine ⟨_, rfl, _, rfl, _, rfl, ka, L, _, _, rfl, sHx _ _ hka, hin.same sHx, hw, hw8, fun H3 l3 us3 ss s3 el3 hu3 sl hms => ?_⟩
        refine ⟨l3, rfl, ⟨us3, SqL.of el3⟩, fun D hD => ?_⟩
        have hul := each_len hu3
        refine lc_list (K := K) (a := l3) (xs := us3) (fun i H' => Same H3 H' ∧ ∃ ys, H' D = some (.lst ys) ∧ InL K H' ys ((ss.take i).map fun s => .t (.s x :: pickG ps s)))
          ⟨Same.new (Same.refl _) hD, [], upd_same, .nil⟩ (fun i H' _ h => SqL.of (h.1 _ _ el3)) ?_ ?_
        · rintro i y Hy hi ⟨sy, ys, eD, hys⟩
          obtain ⟨is, his, b, rfl, hb⟩ := K1.each_at hu3 hi
          have hpl := place_lt ((hms is).mp (List.mem_of_getElem? his))
          have sHy := sHx.trans (s3.trans sy)
          refine ⟨rfl, _, rfl, a, xs, 0, _, rfl, rfl, sqt_same sHy hx, atI_nat (j := 0) e0, (by show 1 ≤ sizeLine; decide), fun q1 h1 => ?_⟩
          have m1 := Same.new (o := .tup [.str x]) (Same.refl Hy) h1
          refine ⟨_, rfl, b, rfl, ⟨_, SqL.of (m1 _ _ (sy _ _ hb))⟩, fun D2 hD2 => ?_⟩
          have f1 := upd_same (H := Hy) (a := q1) (o := .tup [.str x])
          have eDm := m1 _ _ eD
          generalize hHm : upd Hy q1 (.tup [.str x]) = Hm at m1 f1 hD2 eDm ⊢
          have nD2 : D ≠ D2 := ne_of_none eDm hD2
          have sHm := sHy.trans m1
          have shpp : ∀ g ∈ pickG ps is, shp g = true := fun g hg' => by
            obtain ⟨n, hn, rfl⟩ := List.mem_map.mp hg'
            rw [getD_at (hpl.1 n hn)]
            exact hp _ (List.getElem_mem _)
          refine lc_list (K := K) (a := b) (xs := is.map fun n : Nat => V.int n) (fun j H' => Same Hm H' ∧ ∃ zs, H' D2 = some (.lst zs) ∧ InL K H' zs (pickG ps (is.take j)))
            ⟨Same.new (Same.refl _) hD2, [], upd_same, .nil⟩ (fun j H' _ h => SqL.of (h.1 _ _ (m1 _ _ (sy _ _ hb)))) ?_ ?_
          · rintro j y Hz hj ⟨sz', zs, eD2, hzs⟩
            rw [List.getElem?_map] at hj
            obtain ⟨n, hn, rfl⟩ := Option.map_eq_some_iff.mp hj
            have hnl := hpl.1 n (List.mem_of_getElem? hn)
            have hpn : ps[n]? = some ps[n] := List.getElem?_eq_getElem hnl
            obtain ⟨vn, evn, hvn⟩ := hg.get (i := n + 1) (g := ps[n]) (by simpa using hpn)
            have hjl := (List.getElem?_eq_some_iff.mp hn).1
            have zl : zs.length ≤ 8 := by
              have h1 := hzs.len
              unfold pickG at h1
              rw [List.length_map, List.length_take] at h1
              omega
            refine ⟨rfl, _, rfl, _, rfl, _, _, rfl, rfl, a, xs, 1 + (n : Int), vn, rfl, rfl, sqt_same (sHm.trans sz') hx, by rw [show (1 + (n : Int)) = ((n + 1 : Nat) : Int) by omega]; exact atI_nat evn, zs, eD2, by rw [sizeLine_eq]; omega, fun bb o e => ?_, zs ++ [vn], upd_same, ?_⟩
            · rw [upd_ne (ne_of_none e hD2)]
              exact sz' _ _ e
            · have e5 : pickG ps (is.take (j + 1)) = pickG ps (is.take j) ++ [ps[n]] := by
                unfold pickG
                rw [take_snoc hn, List.map_append, List.map_cons, List.map_nil, getD_at hnl]
              rw [e5]
              have off : TupK Hz (upd Hz D2 (.lst (zs ++ [vn]))) := (TupK.of (Ext.refl _)).off eD2
              refine (inL_tk off _ _ (fun g hg' => ?_) hzs).app (.cons (in_tk off _ _ (hp _ (List.getElem_mem hnl)) (hvn.same (sHm.trans sz'))) .nil)
              obtain ⟨n', hn', rfl⟩ := List.mem_map.mp hg'
              rw [getD_at (hpl.1 n' (List.mem_of_mem_take hn'))]
              exact hp _ (List.getElem_mem _)
          · rintro Hz ⟨sz', zs, eD2, hzs⟩
            rw [List.length_map, List.take_length] at hzs
            have zl : zs.length ≤ 8 := by
              have h1 := hzs.len
              unfold pickG at h1
              rw [List.length_map] at h1
              omega
            have yl : ys.length ≤ 400 := by
              have h1 := hys.len
              rw [List.length_map, List.length_take] at h1
              omega
            refine ⟨D2, zs, rfl, .inl ⟨SqL.of eD2, fun q2 h2 => ?_⟩⟩
            have k2 := Same.new (o := .tup zs) (Same.refl Hz) h2
            have fin : ∀ (H4 : Hp) (u : V), Same Hz H4 → In K H4 u (.t (.s x :: pickG ps is)) → ∃ acc, H4 D = some (.lst acc) ∧ acc.length < sizeLine ∧ Same H3 (upd H4 D (.lst (acc ++ [u]))) ∧ ∃ ys, upd H4 D (.lst (acc ++ [u])) D = some (.lst ys) ∧ InL K (upd H4 D (.lst (acc ++ [u]))) ys ((ss.take (i + 1)).map fun s => .t (.s x :: pickG ps s)) := fun H4 u s4 hu4 => by
              have t4 := (sz'.trans s4)
              have eD4 := t4 _ _ eDm
              refine ⟨ys, eD4, by rw [sizeLine_eq]; omega, fun bb o e => ?_, ys ++ [u], upd_same, ?_⟩
              · rw [upd_ne (ne_of_none e hD)]
                exact (m1.trans t4) _ _ (sy _ _ e)
              · rw [take_snoc his, List.map_append]
                have off : TupK H4 (upd H4 D (.lst (ys ++ [u]))) := (TupK.of (Ext.refl _)).off eD4
                refine (inL_tk off _ _ (fun g hg' => ?_) (hys.same (m1.trans t4))).app (.cons (in_tk off _ _ (shp_mk shpp) hu4) .nil)
                obtain ⟨s', hs', rfl⟩ := List.mem_map.mp hg'
                have hpl' := place_lt ((hms s').mp (List.mem_of_mem_take hs'))
                refine shp_mk fun g hg2 => ?_
                obtain ⟨n', hn', rfl⟩ := List.mem_map.mp hg2
                rw [getD_at (hpl'.1 n' hn')]
                exact hp _ (List.getElem_mem _)
            refine ⟨q1, q2, [.str x], zs, rfl, rfl, SqT.of (k2 _ _ (sz' _ _ f1)), SqT.of upd_same, by simp, by simp only [List.length_cons, List.length_nil]; rw [sizeLine_eq]; omega, fun e => ?_, fun _ p hp' => ?_⟩
            · refine fin _ _ k2 (.t (SqT.of (k2 _ _ (sz' _ _ f1))) ?_)
              have e6 : pickG ps is = [] := List.eq_nil_of_length_eq_zero (by rw [← hzs.len, e]; rfl)
              rw [e6]
              exact .cons (.s x) .nil
            · have k3 := k2.trans (Same.new (o := .tup ([.str x] ++ zs)) (Same.refl _) hp')
              exact fin _ _ k3 (.t (SqT.of upd_same) (.cons (.s x) (hzs.same k3)))
        · rintro Hy ⟨sy, ys, eD, hys⟩
          rw [hul, List.take_length] at hys
          have yl := hys.len
          rw [List.length_map] at yl
          have ul := hu.len
          refine ⟨l, D, us, ys, rfl, rfl, sy _ _ (s3 _ _ el), eD, by rw [sizeLine_eq]; omega, fun p hp' => ?_⟩
          have k1 := Same.new (o := .lst (us ++ ys)) (Same.refl Hy) hp'
          refine k _ p (us ++ ys) _ (sHx.trans (s3.trans (sy.trans k1))) upd_same ((hu.same (s3.trans (sy.trans k1))).app (hys.same k1)) (by rw [List.length_append, List.length_map, eptp]; omega) fun g' => ?_
          rw [List.mem_append, hm, see_t, place_own, List.mem_map]
          constructor
          · rintro ((z | z) | ⟨s, z1, z2⟩)
            · exact .inl (.inl z)
            · exact .inr z
            · exact .inl (.inr ⟨s, (hms s).mp z1, z2.symm⟩)
          · rintro ((z | ⟨s, z1, z2⟩) | z)
            · exact .inl (.inl z)
            · exact .inr ⟨s, (hms s).mpr z1, z2.symm⟩
            · exact .inl (.inr z)
end
end K1
set_option Elab.async false
set_option linter.all false
set_option maxRecDepth 100000
set_option maxHeartbeats 2000000
namespace K1
open PySem PySem.Spec PyProof.Rows L2
open PySem.W (EachIs)
abbrev sRise : Stmt := topS 63
def fKV (p : G × V) : Key × V := ((Sum.inr (text p.1) : Key), p.2)
theorem byT_set {S : G → Prop} {acc : Fl} (h : ByT S acc) (g : G) : ByT (fun x => S x ∨ x = g) (setF acc (text g) g) := by
  refine ⟨set_nd h.nd, fun p hp => ?_, fun x hx => ?_⟩
  · rcases set_mem hp with hp | rfl
    · exact ⟨(h.tx p hp).1, .inl (h.tx p hp).2⟩
    · exact ⟨rfl, .inr rfl⟩
  · rw [set_keys]
    rcases hx with hx | rfl
    · have := h.all x hx
      split
      · exact this
      · exact List.mem_append_left _ this
    · split
      · next e => exact e
      · exact List.mem_append_right _ (by simp)
theorem merge_byT {K : PySem.W.Frag} {H : Hp} : ∀ {gs : List G} {us : List V} {acc : Fl} {vs : List V} {S : G → Prop}, InL K H us gs → InL K H vs (acc.map (·.2)) → ByT S acc →
    ∃ acc' vs', mergeK ((acc.zip vs).map fun q => ((Sum.inr q.1.1 : Key), q.2)) ((gs.zip us).map fKV) = ((acc'.zip vs').map fun q => ((Sum.inr q.1.1 : Key), q.2)) ∧ InL K H vs' (acc'.map (·.2)) ∧ ByT (fun g => S g ∨ g ∈ gs) acc' ∧ acc'.length ≤ acc.length + gs.length
  | [], _, acc, vs, S, _, hv, hB => ⟨acc, vs, by simp [mergeK], hv, hB.congr fun g => by simp, by simp⟩
  | g :: gs, v :: us, acc, vs, S, .cons h t, hv, hB => by
    obtain ⟨vs1, e1, e2⟩ := put_tab (x := text g) hv h
    obtain ⟨acc', vs', k1, k2, k3, k4⟩ := merge_byT t e2 (byT_set hB g)
    refine ⟨acc', vs', ?_, k2, k3.congr fun x => ?_, ?_⟩
    · rw [List.zip_cons_cons, List.map_cons]
      show mergeK (putK _ (.inr (text g)) v) _ = _
      rw [e1, k1]
    · rw [List.mem_cons, or_assoc]
    · have := set_len acc (text g) g
      rw [List.length_cons]
      omega
def spRise (K : PySem.W.Frag) (n : Nat) : Sp := fun vs H Q _ => ∃ (l0 : Addr) (us : List V) (gs : List G), vs = [.ref l0] ∧ H l0 = some (.lst us) ∧ InL K H us gs ∧ gs.length ≤ 60000 ∧ (∀ g ∈ gs, shp g = true ∧ fine g = true ∧ dp g ≤ n ∧ sz g ≤ 2000) ∧
  ∀ H' l us' acc, Same H H' → H l = none → H' l = some (.lst us') → InL K H' us' ((sortFl acc).map (·.2)) → ByT (fun g => g ∈ gs) acc → acc.length ≤ 60000 → Q (.ref l) H'
section
variable {P : Program} {w : World} {K : PySem.W.Frag} {mg : Str → Option Value} {base : Heap}
abbrev nRise : List Str := ["_law_terms", "_law_by_text", "_law_tree", "_law_text_here"]
theorem scRise : FnScope nRise ["_law_terms"] (defScope sRise) := ⟨rfl, rfl, rfl, by decide +kernel, rfl, by decide +kernel, by decide +kernel⟩
theorem ok_rise {f : Addr} {fd : FuncData} {n m : Nat} (F : Fun K "_law_rising" "_law_rising" sRise f fd) (DT : Df P w K mg base C8.CX0 "_law_text" m ["_law_tree"] (sp1 K n fun g => .str (text g))) (T : Ct mg) : FnOk P w K mg base C8.CX0 (m + 1) f fd ["_law_terms"] (spRise K n) := by
  refine F.ok scRise (fun vs H Q E h => ?_) (fun cdv A outer s H vs Q E hr h => ?_)
  · obtain ⟨l0, us, gs, rfl, _⟩ := h
    rfl
  · obtain ⟨l0, us, gs, rfl, hl0, hu, hgl, hgs, k⟩ := h
    have hu' := hu_of hr
    refine ⟨_, pss_cons (ps_set (i := 1) scRise.nd rfl (by first | exact Or.inl rfl | exact Or.inr rfl) (pe_callTy (call_dictP rfl) (by rfl) T.dict boot_dict (pa_cons (pe_lc (own := [("_law_tree", 2)]) (g := gName 2) (tt := tYes) rfl scRise.nd (pi_list (pv 0)) (blkOk_by (N := nRise) (sc := defScope sRise) (by decide +kernel))
        (fun _ _ _ _ _ => pg_name (i := 2) scRise.nd rfl (by first | exact Or.inl rfl | exact Or.inr rfl)) (fun _ _ _ _ _ => pts_nil) (fun _ _ _ _ _ => pe_tup (pa_cons (pe_df DT hr pass0 (pa_cons (pv 2) pa_nil) (Nat.le_refl _)) (pa_cons (pv 2) pa_nil)))) pa_nil)))
      (pss_one (ps_ret (pe_lc (own := [("_law_text_here", 3)]) (g := gName 3) (tt := tYes) rfl scRise.nd (pi_list (pe_callB (call_sortedDA rfl) (by rfl) T.sorted bootSorted (pa_cons (pv 1) pa_nil))) (blkOk_by (N := nRise) (sc := defScope sRise) (by decide +kernel)) (fun _ _ _ _ _ => pg_name (i := 3) scRise.nd rfl (by first | exact Or.inl rfl | exact Or.inr rfl)) (fun _ _ _ _ _ => pts_nil)
            (fun _ _ _ _ _ => pe_dget hu' (pv 1) (pv 3) (fun _ _ => rfl))))), ?_⟩
    have hul := hu.len
    refine ⟨_, rfl, l0, rfl, ⟨us, SqL.of hl0⟩, fun D hD => ?_⟩
    refine lc_list (K := K) (a := l0) (xs := us) (fun i H' => Same H H' ∧ ∃ ps : List Addr, ps.length = i ∧ H' D = some (.lst (ps.map V.ref)) ∧ Paired (fun p (kv : Key × V) => SqT K H' p [kV kv.1, kv.2]) ps (((gs.zip us).map fKV).take i))
      ⟨Same.new (Same.refl H) hD, [], rfl, upd_same, .nil⟩ (fun i H' _ ⟨s1, _⟩ => SqL.of (s1 _ _ hl0)) ?_ ?_
    · rintro i x Hx hi ⟨sx, ps, lp, eD, hp⟩
      obtain ⟨g, hg, hxg⟩ := hu.at hi
      have hgm := List.mem_of_getElem? hg
      obtain ⟨z1, z2, z3, z4⟩ := hgs g hgm
      have hil := (List.getElem?_eq_some_iff.mp hg).1
      have ez : ((gs.zip us).map fKV)[i]? = some ((Sum.inr (text g) : Key), x) := by
        have z : (gs.zip us)[i]? = some (g, x) := List.getElem?_zip_eq_some.mpr ⟨hg, hi⟩
        rw [List.getElem?_map, z]
        rfl
      refine ⟨rfl, _, rfl, x, g, rfl, hxg.same sx, z1, z2, z3, z4, fun H1 s1 => ⟨_, rfl, (by show 2 ≤ sizeLine; decide), fun q hq => ?_⟩⟩
      have sq := s1.trans (Same.new (o := .tup [.str (text g), x]) (Same.refl H1) hq)
      have eDq := sq _ _ eD
      have nD : D ≠ q := ne_of_none (s1 _ _ eD) hq
      have off : TupK Hx (upd (upd H1 q (.tup [.str (text g), x])) D (.lst (ps.map V.ref ++ [.ref q]))) := (TupK.of (Ext.of sq)).off eDq
      refine ⟨_, eDq, by rw [List.length_map, lp, sizeLine_eq]; omega, fun b o e => ?_, ps ++ [q], by rw [List.length_append, lp]; rfl, by rw [upd_same, List.map_append]; rfl, ?_⟩
      · rw [upd_ne (ne_of_none e hD)]
        exact sq _ _ (sx _ _ e)
      · rw [take_snoc ez]
        have hlast : SqT K (upd (upd H1 q (.tup [.str (text g), x])) D (.lst (ps.map V.ref ++ [.ref q]))) q [kV (Sum.inr (text g)), x] := SqT.of (by rw [upd_ne nD.symm, upd_same]; rfl)
        have app : ∀ {ps' : List Addr} {kvs' : List (Key × V)}, Paired (fun p (kv : Key × V) => SqT K Hx p [kV kv.1, kv.2]) ps' kvs' → Paired (fun p (kv : Key × V) => SqT K (upd (upd H1 q (.tup [.str (text g), x])) D (.lst (ps.map V.ref ++ [.ref q]))) p [kV kv.1, kv.2]) (ps' ++ [q]) (kvs' ++ [((Sum.inr (text g) : Key), x)]) := by
          intro ps' kvs' h
          induction h with
          | nil => exact .cons hlast .nil
          | cons h _ ih => exact .cons (off.sqt h) ih
        exact app hp
    · rintro Hx ⟨sx, ps, lp, eD, hp⟩
      have hzl : ((gs.zip us).map fKV).length = us.length := by rw [List.length_map, List.length_zip]; omega
      rw [← hzl, List.take_length] at hp
      refine ⟨D, ps, _, rfl, SqL.of eD, hp, fun Td hTd => ?_⟩
      obtain ⟨acc, vs, em, hv, hB, hal⟩ := merge_byT (K := K) (acc := []) (vs := []) (S := fun _ => False) (hu.same sx) .nil byT_nil
      rw [show mergeK [] ((gs.zip us).map fKV) = (acc.zip vs).map fun q => ((Sum.inr q.1.1 : Key), q.2) from em]
      have s0 := Same.new (o := .dK ((acc.zip vs).map fun q => ((Sum.inr q.1.1 : Key), q.2))) (Same.refl Hx) hTd
      have eT := upd_same (H := Hx) (a := Td) (o := .dK ((acc.zip vs).map fun q => ((Sum.inr q.1.1 : Key), q.2)))
      have hv0 := hv.same s0
      generalize upd Hx Td (.dK ((acc.zip vs).map fun q => ((Sum.inr q.1.1 : Key), q.2))) = H0 at s0 eT hv0 ⊢
      have hB' := hB.congr (S' := fun g => g ∈ gs) fun g => by simp
      have accl : acc.length ≤ 60000 := by
        rw [List.length_nil, Nat.zero_add] at hal
        omega
      have hvl : vs.length = acc.length := by rw [hv.len, List.length_map]
      have tpa : ∀ g' ∈ (sortFl acc).map (·.2), shp g' = true := fun g' hg' => by
        obtain ⟨p, hp, rfl⟩ := List.mem_map.mp hg'
        exact (hgs p.2 (hB'.tx p (sortFl_mem hp)).2).1
      refine ⟨_, rfl, Td, _, acc.map (·.1), rfl, .inl eT, tab_keys hvl, fun ys l hpm hs hln => ?_⟩
      obtain rfl := rises_sort hpm hs
      have s1 := Same.new (o := .lst ((sortS (acc.map (·.1))).map V.str)) (Same.refl H0) hln
      have hkl : (sortS (acc.map (·.1))).length = acc.length := by rw [(sortS_perm _).length_eq, List.length_map]
      refine ⟨l, rfl, ⟨_, SqL.of upd_same⟩, fun D2 hD2 => ?_⟩
      have sall := (sx.trans s0).trans s1
      have DH : H D2 = none := by
        cases e : H D2 with
        | none => rfl
        | some o => rw [sall _ _ e] at hD2; cases hD2
      refine lc_list (K := K) (a := l) (xs := (sortS (acc.map (·.1))).map V.str) (fun j H' => Same (upd H0 l (.lst ((sortS (acc.map (·.1))).map V.str))) H' ∧ ∃ ys, H' D2 = some (.lst ys) ∧ InL K H' ys (((sortFl acc).take j).map (·.2)))
        ⟨Same.new (Same.refl _) hD2, [], upd_same, .nil⟩ (fun j H' _ h => SqL.of (h.1 _ _ upd_same)) ?_ ?_
      · rintro j x Hy hx ⟨nx, ys, eD2, hys⟩
        rw [List.getElem?_map] at hx
        obtain ⟨kk, hk, rfl⟩ := Option.map_eq_some_iff.mp hx
        obtain ⟨g, hg⟩ := sortS_look hk
        have hj := (List.getElem?_eq_some_iff.mp hk).1
        have eF := nx _ _ (s1 _ _ eT)
        rcases tab_get (x := kk) (hv0.same (s1.trans nx)) with ⟨z, _⟩ | ⟨g', v, z, hvv, hin⟩
        · rw [hg] at z; cases z
        obtain rfl : g = g' := Option.some.inj (hg.symm.trans z)
        have e1 : (sortFl acc)[j]? = some (kk, g) := by rw [sortFl_at hk, hg]; rfl
        have hyl : ys.length ≤ 60000 := by
          have e3 := hys.len
          rw [List.length_map, List.length_take] at e3
          omega
        refine ⟨rfl, _, rfl, _, rfl, Td, v, rfl, .inl ⟨_, .inr kk, .inl eF, rfl, hvv.symm⟩, ys, eD2, by rw [sizeLine_eq]; omega, fun b o e => ?_, ys ++ [v], upd_same, ?_⟩
        · rw [upd_ne (ne_of_none e hD2)]
          exact nx _ _ e
        · rw [take_snoc e1, List.map_append]
          have off : TupK Hy (upd Hy D2 (.lst (ys ++ [v]))) := (TupK.of (Ext.refl _)).off eD2
          refine (inL_tk off _ _ (fun g' hg' => tpa g' ?_) hys).app (.cons (in_tk off _ _ (tpa g (List.mem_map.mpr ⟨_, List.mem_of_getElem? e1, rfl⟩)) hin) .nil)
          obtain ⟨p, hp, rfl⟩ := List.mem_map.mp hg'
          exact List.mem_map.mpr ⟨p, List.mem_of_mem_take hp, rfl⟩
      · rintro Hy ⟨nx, ys, eD2, hys⟩
        rw [List.length_map, hkl, ← sortFl_len, List.take_length] at hys
        exact k Hy D2 ys acc (sall.trans nx) DH eD2 hys hB' accl
end
end K1
set_option Elab.async false
set_option linter.all false
set_option maxRecDepth 100000
set_option maxHeartbeats 2000000
namespace K1
open PySem PySem.Spec PyProof.Rows L2
open PySem.W (EachIs)
abbrev sWideL : Stmt := topS 64
theorem bl2 : Blk ["A", "B"] := ⟨by decide, by decide, by decide +kernel, by decide +kernel⟩
theorem bl4w : Blk ["A", "B", "Cd", "Ef"] := ⟨by decide, by decide, by decide +kernel, by decide +kernel⟩
/-- names of some of the rows -/
def NamesOf (L : List Ln) (p : Ln → Prop) (ys : List V) : Prop := ∀ y ∈ ys, ∃ l ∈ L, p l ∧ y = .str l.1
def spWideL (K : PySem.W.Frag) (TT : List (Addr × Str)) : Sp := fun vs H Q _ => ∃ (d g c ll : Addr) (t : Nat) (L : List Ln) (xs : List V), vs = [.ref d, .ref ll] ∧ Wd TT d g c t H ∧ hid [d, g] H ll = some (.lst xs) ∧ DpAll K (hid [d, g] H) xs (L.map rowD) ∧ Sg L ∧ t + 60 < 2 ^ 30 ∧
  ∀ v H', TermIn K L 30 6 H' v → Wd TT d g c (t + 60) H' → Kn d g H H' → Q v H'
theorem flat1_len {h : Str} : ∀ {gs : List G}, (∀ g ∈ gs, deep g ≤ 1) → (flat h gs).length ≤ gs.length
  | [], _ => Nat.le_refl _
  | g :: gs, hd => by
    have ih := flat1_len (h := h) (gs := gs) fun x hx => hd x (List.mem_cons_of_mem _ hx)
    have h1 : (oneP h g).length ≤ 1 := by
      by_cases e : ∃ rs, g = .t (.s h :: rs)
      · obtain ⟨rs, rfl⟩ := e
        have h2 := hd (.t (.s h :: rs)) List.mem_cons_self
        have e1 : oneP h (.t (.s h :: rs)) = rs := by simp [oneP]
        rw [e1]
        rw [deep_t] at h2
        cases rs with
        | nil => simp
        | cons r rs =>
          have h3 := le_maxl (List.mem_map.mpr ⟨r, List.mem_cons_self, rfl⟩ : deep r ∈ (r :: rs).map deep)
          have := deep_pos r
          omega
      · rw [oneP_no fun rs z => e ⟨rs, z⟩]
        simp
    unfold flat at ih ⊢
    rw [List.flatMap_cons, List.length_append, List.length_cons]
    omega
theorem cap_std {L : List Ln} {l : Ln} {g : G} (hf : find L l.1 = some l) (h1 : l.2.1 = "plain") (h2 : l.2.2 = 1) (hg : Std L g) : Std L (.t [.s l.1, g]) := by
  constructor
  · rw [stands_t]
    simp only [hasParts, hf, h1, h2, List.all_cons, List.all_nil, Bool.and_true, List.length_cons, List.length_nil, hg.st]
    rw [if_neg (by decide +kernel)]
    decide
  · rw [laid_t, kindOf_of hf, h1]
    simp only [List.map_cons, List.map_nil, hg.ld]
    have e : arr (Str.ofString "plain") l.1 [g] = [g] := by
      unfold arr opn
      rw [if_neg (by decide +kernel), if_neg (by decide +kernel)]
    rw [show arr "plain" l.1 [g] = [g] from e]
section
variable {P : Program} {w : World} {K : PySem.W.Frag} {mg : Str → Option Value} {base : Heap}
abbrev nWideL : List Str := ["_law_state", "_law_rows", "_law_flat", "_law_caps", "_law_leaves", "_law_tree", "_law_name", "_law_kind", "_law_many", "_law_k"]
theorem scWideL : FnScope nWideL ["_law_state", "_law_rows"] (defScope sWideL) := ⟨rfl, rfl, rfl, by decide +kernel, rfl, by decide +kernel, by decide +kernel⟩
theorem ok_wideL {f : Addr} {fd : FuncData} {TT : List (Addr × Str)} {q N : Nat} (F : Fun K "_law_wide" "_law_wide" sWideL f fd) (DT : Df P w K mg base C8.CX0 "_law_take" 2 ["_law_state", "_law_size"] spTake) (DP : Df P w K mg base C8.CX0 "_law_pick" 3 ["_law_state", "_law_some"] spPick) (DF : Df P w K mg base C8.CX0 "_law_leaf" 4 ["_law_state", "_law_rows", "_law_blanks"] (spLeaf K TT))
    (DL : Df P w K mg base C8.CX0 "_law_laid" q ["_law_kinds_here", "_law_draft_here"] (spLLaid K TT N)) (DK : Df P w K mg base C8.CX0 "_law_kinds" 1 ["_law_rows"] (spKinds K)) (T : Ct mg) (hq : 4 ≤ q) (hN : 30 ≤ N) : FnOk P w K mg base C8.CX0 (q + 1) f fd ["_law_state", "_law_rows"] (spWideL K TT) := by
  refine F.ok scWideL (fun vs H Q E h => ?_) (fun cdv A outer s H vs Q E hr h => ?_)
  · obtain ⟨d, g, c, ll, t, L, xs, rfl, _⟩ := h
    rfl
  · obtain ⟨d, g, c, ll, t, L, xs, rfl, W, ex, hdp, S, ht, k⟩ := h
    have hr4 : Room 4 _ := hr.mono hq
    have hu10 : (A.deeper (envOfC "_law_wide" (defScope sWideL) s.heap.objs.size f cdv)).units + 10 < cLine := by
      have := units65 hr
      omega
    have hr3 : Room 3 _ := hr4.mono (by decide)
    have hr2 : Room 2 _ := hr4.mono (by decide)
    have hr1 : Room 1 _ := hr4.mono (by decide)
    refine ⟨_, pss_cons (ps_setLc (i := 2) (own := [("_law_name", 6), ("_law_kind", 7), ("_law_many", 8)]) (g := gTup K 3 (gCons (gName 6) (gCons (gName 7) (gCons (gName 8) gNil)))) rfl scWideL.nd rfl rfl (sw_true rfl rfl rfl (by decide +kernel)) (pi_list (pv 1)) (blkOk_by (N := nWideL) (sc := defScope sWideL) (by decide +kernel))
        (fun _ _ _ _ _ => pg_tup rfl (pgs_cons (pg_name (i := 6) scWideL.nd rfl (Or.inl rfl)) (pgs_cons (pg_name (i := 7) scWideL.nd rfl (Or.inl rfl)) (pgs_cons (pg_name (i := 8) scWideL.nd rfl (Or.inl rfl)) pgs_nil))))
        (fun _ _ _ _ _ => pts_one (pt_cmpR (show OpR _ _ (rInT K) from op_inT (units65 hr)) (pv 7) (pe_tup (pa_cons pe_str (pa_cons pe_str pa_nil))) (by rfl))) (fun _ _ _ _ _ => pv 6))
      (pss_cons (ps_setLc (i := 3) (own := [("_law_name", 6), ("_law_kind", 7), ("_law_many", 8)]) (g := gTup K 3 (gCons (gName 6) (gCons (gName 7) (gCons (gName 8) gNil)))) rfl scWideL.nd rfl rfl (sw_true rfl rfl rfl (by decide +kernel)) (pi_list (pv 1)) (blkOk_by (N := nWideL) (sc := defScope sWideL) (by decide +kernel))
        (fun _ _ _ _ _ => pg_tup rfl (pgs_cons (pg_name (i := 6) scWideL.nd rfl (Or.inl rfl)) (pgs_cons (pg_name (i := 7) scWideL.nd rfl (Or.inl rfl)) (pgs_cons (pg_name (i := 8) scWideL.nd rfl (Or.inl rfl)) pgs_nil))))
        (fun _ _ _ _ _ => pts_one (PW.pt (pw_and (pt_cmpR op_eq (pv 7) pe_str (nomark _)) (pw_and1 (pt_cmpR op_eq (pv 8) pe_int (nomark _)))))) (fun _ _ _ _ _ => pv 6))
      (pss_cons (ps_if (pt_cmpR (show OpR _ _ (SrtF.rEqNil K) from SrtF.op_eqNil hu10) (pv 2) (pe_lst pa_nil) (nomark _)) (pss_one (ps_ret (pe_df DF hr4 pass0 (pa_cons (pv 0) (pa_cons (pv 1) (pa_cons (pe_lst (pa_cons pe_str (pa_cons pe_str pa_nil))) pa_nil)))))) pss_nil)
      (pss_cons (ps_set (i := 4) scWideL.nd rfl (by first | exact Or.inl rfl | exact Or.inr rfl) (pe_lc (own := [("_law_k", 9)]) (g := gName 9) (tt := tYes) rfl scWideL.nd (pi_range1 rfl T.range (pa_cons (pe_op op_add pe_int (pe_df DT hr2 pass0 (pa_cons (pv 0) (pa_cons pe_int pa_nil)))) pa_nil)) (blkOk_by (N := nWideL) (sc := defScope sWideL) (by decide +kernel)) (fun _ _ _ _ _ => pg_name (i := 9) scWideL.nd rfl (by first | exact Or.inl rfl | exact Or.inr rfl)) (fun _ _ _ _ _ => pts_nil)
            (fun _ _ _ _ _ => pe_df DF hr4 pass0 (pa_cons (pv 0) (pa_cons (pv 1) (pa_cons (pe_lst (pa_cons pe_str (pa_cons pe_str (pa_cons pe_str (pa_cons pe_str pa_nil))))) pa_nil))))))
      (pss_cons (ps_set (i := 5) scWideL.nd rfl (by first | exact Or.inl rfl | exact Or.inr rfl) (pe_op op_catT (pe_tup (pa_cons (pe_df DP hr3 pass0 (pa_cons (pv 0) (pa_cons (pv 2) pa_nil))) pa_nil)) (pe_callTy call_tuple_of (by rfl) T.tuple boot_tuple (pa_cons
          (pe_lc (own := [("_law_k", 9)]) (g := gName 9) (tt := tYes) rfl scWideL.nd (pi_range1 rfl T.range (pa_cons (pe_op op_add pe_int (pe_df DT hr2 pass0 (pa_cons (pv 0) (pa_cons pe_int pa_nil)))) pa_nil)) (blkOk_by (N := nWideL) (sc := defScope sWideL) (by decide +kernel)) (fun _ _ _ _ _ => pg_name (i := 9) scWideL.nd rfl (by first | exact Or.inl rfl | exact Or.inr rfl)) (fun _ _ _ _ _ => pts_nil)
            (fun _ _ _ _ _ => pe_df DP hr3 pass0 (pa_cons (pv 0) (pa_cons (pv 4) pa_nil)))) pa_nil))))
      (pss_cons (ps_set (i := 5) scWideL.nd rfl (by first | exact Or.inl rfl | exact Or.inr rfl) (pe_df DL hr pass0 (pa_cons (pe_df DK hr1 pass0 (pa_cons (pv 1) pa_nil)) (pa_cons (pv 5) pa_nil)) (Nat.le_refl _)))
      (pss_one (ps_ret (pe_ifExp (pt_cmpR (show OpR _ _ (SrtF.rEqNil K) from SrtF.op_eqNil hu10) (pv 3) (pe_lst pa_nil) (nomark _)) (pv 5) (pe_tup (pa_cons (pe_df DP hr3 pass0 (pa_cons (pv 0) (pa_cons (pv 3) pa_nil))) (pa_cons (pv 5) pa_nil))))))))))), ?_⟩
    obtain ⟨lld, llg, ex0⟩ := hid_got ex
    have hxl : xs.length = L.length := by
      have := dpAll_len hdp
      rw [List.length_map] at this
      exact this
    have hLl := S.ok.len
    have hrow : ∀ {H' : Hp} {i : Nat} {x : V}, Same H H' → xs[i]? = some x → ∃ l b, L[i]? = some l ∧ x = .ref b ∧ SqT K H' b [.str l.1, .str l.2.1, .int l.2.2] := fun {H' i x} sm hi => by
      obtain ⟨l, hli, hld⟩ := dpr_at hdp hi
      obtain ⟨b, rfl, hb⟩ := row_at (dp_same (hid_le.trans sm) _ _ hld)
      exact ⟨l, b, hli, rfl, hb⟩
    -- names of rows and heaps
    refine ⟨_, rfl, ll, rfl, ⟨_, SqL.of ex0⟩, fun D1 hD1 => ?_⟩
    refine lc_list (K := K) (a := ll) (xs := xs) (fun i H' => Same H H' ∧ ∃ ys, H' D1 = some (.lst ys) ∧ ys.length ≤ i ∧ NamesOf L (fun l => rowish l.2.1 = true) ys)
      ⟨Same.new (Same.refl _) hD1, [], upd_same, Nat.le_refl _, fun _ z => absurd z (by simp)⟩ (fun i H' _ h => SqL.of (h.1 _ _ ex0)) ?_ ?_
    · rintro i x Hx hi ⟨sx, ys, eD, hyl, hn⟩
      obtain ⟨l, b, hli, rfl, hb⟩ := hrow sx hi
      have hlm := List.mem_of_getElem? hli
      have hil := (List.getElem?_eq_some_iff.mp hli).1
      obtain ⟨sk, _, _, _⟩ := kinds_ok _ (S.ok.kd l hlm)
      refine ⟨b, _, rfl, hb, rfl, _, _, rfl, _, _, rfl, _, _, rfl, rfl, rfl, ?_⟩
      refine ⟨_, rfl, (by show 2 ≤ sizeLine; decide), fun p hp => ⟨.str l.2.1, [.str "row", .str "heap"], .str _, .tup (SqT.of upd_same) (.cons (.str _) (.cons (.str _) .nil)), sk, by decide +kernel, _, rfl, ?_⟩⟩
      have s1 := Same.new (o := .tup [.str "row", .str "heap"]) (Same.refl Hx) hp
      have eD1 := s1 _ _ eD
      refine ite2 (fun h1 => ?_) (fun h1 => ?_)
      · refine ⟨_, rfl, ys, eD1, by rw [sizeLine_eq]; omega, fun bb o e => ?_, ys ++ [.str l.1], upd_same, by rw [List.length_append]; simp; omega, fun y hy => ?_⟩
        · rw [upd_ne (ne_of_none e hD1)]
          exact s1 _ _ (sx _ _ e)
        · rcases List.mem_append.mp hy with hy | hy
          · exact hn y hy
          · exact ⟨l, hlm, h1, List.mem_singleton.mp hy⟩
      · exact ⟨sx.trans s1, ys, eD1, by omega, hn⟩
    rintro H1 ⟨s1, fs, eF, hfl, hfn⟩
    obtain ⟨F1d, F1g⟩ := W.G.nd hD1
    -- names of plain signs of one part
    refine ⟨_, rfl, ll, rfl, ⟨_, SqL.of (s1 _ _ ex0)⟩, fun D2 hD2 => ?_⟩
    refine lc_list (K := K) (a := ll) (xs := xs) (fun i H' => Same H1 H' ∧ ∃ ys, H' D2 = some (.lst ys) ∧ ys.length ≤ i ∧ NamesOf L (fun l => l.2.1 = "plain" ∧ l.2.2 = 1) ys)
      ⟨Same.new (Same.refl _) hD2, [], upd_same, Nat.le_refl _, fun _ z => absurd z (by simp)⟩ (fun i H' _ h => SqL.of (h.1 _ _ (s1 _ _ ex0))) ?_ ?_
    · rintro i x Hx hi ⟨sx, ys, eD, hyl, hn⟩
      obtain ⟨l, b, hli, rfl, hb⟩ := hrow (s1.trans sx) hi
      have hlm := List.mem_of_getElem? hli
      have hil := (List.getElem?_eq_some_iff.mp hli).1
      refine ⟨b, _, rfl, hb, rfl, _, _, rfl, _, _, rfl, _, _, rfl, rfl, rfl, _, rfl, rfl, _, rfl, ?_⟩
      have stay : Same H1 Hx ∧ ∃ ys, Hx D2 = some (.lst ys) ∧ ys.length ≤ i + 1 ∧ NamesOf L (fun l => l.2.1 = "plain" ∧ l.2.2 = 1) ys := ⟨sx, ys, eD, by omega, hn⟩
      refine ite2 (fun h1 => ?_) (fun h1 => iteF stay)
      refine ⟨_, rfl, rfl, _, rfl, ?_⟩
      refine ite2 (fun h2 => ?_) (fun h2 => stay)
      have hk1 : l.2.1 = "plain" := by simpa using of_decide_eq_true h1
      have hk2 : l.2.2 = 1 := by
        have := of_decide_eq_true h2
        have := V.int.inj this
        omega
      refine ⟨_, rfl, ys, eD, by rw [sizeLine_eq]; omega, fun bb o e => ?_, ys ++ [.str l.1], upd_same, by rw [List.length_append]; simp; omega, fun y hy => ?_⟩
      · rw [upd_ne (ne_of_none e hD2)]
        exact sx _ _ e
      · rcases List.mem_append.mp hy with hy | hy
        · exact hn y hy
        · exact ⟨l, hlm, ⟨hk1, hk2⟩, List.mem_singleton.mp hy⟩
    rintro H2 ⟨s2, cs, eC, hcl, hcn⟩
    have eF2 := s2 _ _ eF
    have s02 := s1.trans s2
    have W2 := W.same s02
    obtain ⟨C1d, C1g⟩ := (W.same s1).G.nd hD2
    refine ⟨_, rfl, (by show 0 ≤ sizeLine; decide), fun e0 he0 => ⟨D1, e0, fs, rfl, rfl, SqL.of (Same.new (o := .lst []) (Same.refl H2) he0 _ _ eF2), SqL.of upd_same, _, rfl, ?_⟩⟩
    have s3 := Same.new (o := .lst []) (Same.refl H2) he0
    have W3 := W2.same s3
    have n3 : Kn d g H _ := .same (s02.trans s3)
    have eF3 := s3 _ _ eF2
    have eC3 := s3 _ _ eC
    generalize upd H2 e0 (.lst []) = H3 at s3 W3 n3 eF3 eC3 ⊢
    cases fs with
    | nil =>
      refine iteT_ (by rfl) ?_
      refine ⟨_, rfl, _, rfl, (by show 2 ≤ sizeLine; decide), fun bl hbl => ?_⟩
      have s4 := Same.new (o := .lst [.str "A", .str "B"]) (Same.refl H3) hbl
      have n4 := n3.trans (.same (d := d) (g := g) s4)
      refine ⟨d, g, c, ll, bl, _, L, ["A", "B"], rfl, W3.same s4, by omega, ⟨xs, SqL.of (n4.hid _ _ ex (by intro _ z; cases z)), dpr_ext n4.hid _ hdp⟩, S.ok, S.nd, SqL.of (hid_get ((W3.G.nd hbl).1) ((W3.G.nd hbl).2) upd_same), bl2, fun v H' hv W' n' => k v H' ?_ (W'.mono (by omega)) (n4.trans n')⟩
      obtain ⟨gg, a1, a2, a3, a4, a5⟩ := hv
      exact ⟨gg, a1, a2, by omega, by omega, a5⟩
    | cons f0 fs' =>
      refine iteF_ (by simp) ?_
      -- leaves
      refine ⟨_, rfl, d, g, c, _, 4, rfl, W3.G, by omega, by decide, by decide, fun z H4 z0 z1 G4 k4 => ⟨_, _, rfl, rfl, _, rfl, by omega, by omega, ?_⟩⟩
      obtain ⟨zn, rfl⟩ := Int.eq_ofNat_of_zero_le z0
      have W4 := W3.kp G4 k4
      have n4 := n3.trans (.kp k4)
      have k34 : Kn d g H3 H4 := .kp k4
      have eF4 := k34 _ _ F1d F1g eF3 (by intro _ z; cases z)
      have eC4 := k34 _ _ C1d C1g eC3 (by intro _ z; cases z)
      rw [show ((1 : Int) + (zn : Int)).toNat = zn + 1 by omega]
      refine fun D3 hD3 => ?_
      obtain ⟨D3d, D3g⟩ := W4.G.nd hD3
      have D3c : D3 ≠ c := fun z => by
        obtain ⟨_, gs, cs, _, _, _, _, e3, _⟩ := W4.G
        rw [z, e3] at hD3
        cases hD3
      refine lc_range (lo := 0) (n := zn + 1) (fun j H' => Wd TT d g c (t + 1 + j) H' ∧ Kn d g H4 H' ∧ ∃ ys, H' D3 = some (.lst ys) ∧ ys.length = j ∧ ∀ y ∈ ys, Leaf K L H' y)
        ⟨(W4.new hD3).mono (by omega), .same (Same.new (Same.refl _) hD3), [], upd_same, rfl, fun _ z => absurd z (by simp)⟩ ?_ ?_
      · rintro j Hx hj ⟨Wx, nx, ys, eD, hyl, hys⟩
        refine ⟨rfl, _, rfl, _, rfl, (by show 4 ≤ sizeLine; decide), fun bl hbl => ?_⟩
        have s4 := Same.new (o := .lst [.str "A", .str "B", .str "Cd", .str "Ef"]) (Same.refl Hx) hbl
        have n5 := (n4.trans nx).trans (.same (d := d) (g := g) s4)
        refine ⟨d, g, c, ll, bl, _, L, ["A", "B", "Cd", "Ef"], rfl, Wx.same s4, by omega, ⟨xs, SqL.of (n5.hid _ _ ex (by intro _ z; cases z)), dpr_ext n5.hid _ hdp⟩, S.ok, S.nd, SqL.of (hid_get ((Wx.G.nd hbl).1) ((Wx.G.nd hbl).2) upd_same), bl4w, fun v H' hv W' n' => ?_⟩
        have nn : Kn d g Hx H' := (Kn.same s4).trans n'
        have eD' := nn _ _ D3d D3g eD (by intro _ z; cases z)
        have off : TupK H' (upd H' D3 (.lst (ys ++ [v]))) := (TupK.of (Ext.refl _)).off eD'
        refine ⟨ys, eD', by rw [sizeLine_eq]; omega, (W'.off eD' D3d D3g D3c).mono (by omega), ?_, ys ++ [v], upd_same, by rw [List.length_append, hyl]; rfl, fun y hy => ?_⟩
        · exact fun b o bd' bg' e nt => by
            rw [upd_ne (ne_of_none e hD3)]
            exact nx.trans nn b o bd' bg' e nt
        · rcases List.mem_append.mp hy with hy | hy
          · exact ((hys y hy).tk (Wx.G.tk nn)).tk off
          · rw [List.mem_singleton.mp hy]
            exact hv.tk off
      rintro H5 ⟨W5, n45, lv, eL5, hlv, hlf⟩
      have eF5 := n45 _ _ F1d F1g eF4 (by intro _ z; cases z)
      have eC5 := n45 _ _ C1d C1g eC4 (by intro _ z; cases z)
      have n5 := n4.trans n45
      have fl8 : (f0 :: fs').length ≤ 24 := by omega
      -- the term
      refine ⟨_, rfl, _, rfl, d, g, c, D1, _, _, rfl, W5.G, by omega, eF5, F1g, by simp, by omega, fun vh H6 hvh G6 k6 => ⟨(by show 1 ≤ sizeLine; decide), fun q1 hq1 => ?_⟩⟩
      obtain ⟨l, hlm, hrow', rfl⟩ := hfn vh hvh
      have W6 := W5.kp G6 k6
      have s7 := Same.new (o := .tup [.str l.1]) (Same.refl H6) hq1
      have f7 := upd_same (H := H6) (a := q1) (o := .tup [.str l.1])
      have n57 : Kn d g H5 _ := (Kn.kp k6).trans (.same s7)
      have W7 := W6.same s7
      generalize upd H6 q1 (.tup [.str l.1]) = H7 at s7 f7 n57 W7 ⊢
      obtain ⟨q1d, q1g⟩ := W6.G.nd hq1
      refine ⟨_, rfl, d, g, c, _, 7, rfl, W7.G, by omega, by decide, by decide, fun y0 H8 y00 y01 G8 k8 => ⟨_, _, rfl, rfl, _, rfl, by omega, by omega, ?_⟩⟩
      obtain ⟨yn, rfl⟩ := Int.eq_ofNat_of_zero_le y00
      have W8 := W7.kp G8 k8
      have n58 := n57.trans (.kp k8)
      have f8 : H8 q1 = some (.tup [.str l.1]) := k8 _ _ q1d q1g f7
      have eL8 := n58 _ _ D3d D3g eL5 (by intro _ z; cases z)
      have eC8 := n58 _ _ C1d C1g eC5 (by intro _ z; cases z)
      have hlf8 : ∀ y ∈ lv, Leaf K L H8 y := fun y hy => (hlf y hy).tk (W5.G.tk n58)
      rw [show ((2 : Int) + (yn : Int)).toNat = yn + 2 by omega]
      refine fun D5 hD5 => ?_
      obtain ⟨D5d, D5g⟩ := W8.G.nd hD5
      have D5c : D5 ≠ c := fun z => by
        obtain ⟨_, gs, cs, _, _, _, _, e3, _⟩ := W8.G
        rw [z, e3] at hD5
        cases hD5
      refine lc_range (lo := 0) (n := yn + 2) (fun j H' => Wd TT d g c (t + 20 + j) H' ∧ Kn d g H8 H' ∧ ∃ ys, H' D5 = some (.lst ys) ∧ ys.length = j ∧ ∀ y ∈ ys, Leaf K L H' y)
        ⟨(W8.new hD5).mono (by omega), .same (Same.new (Same.refl _) hD5), [], upd_same, rfl, fun _ z => absurd z (by simp)⟩ ?_ ?_
      · rintro j Hx hj ⟨Wx, nx, ys, eD, hyl, hys⟩
        have eLx := nx _ _ D3d D3g eL8 (by intro _ z; cases z)
        refine ⟨rfl, _, rfl, _, rfl, d, g, c, D3, _, lv, rfl, Wx.G, by omega, eLx, D3g, fun z => by rw [z] at hlv; simp at hlv, by omega, fun v H' hv G' k' => ?_⟩
        have W' := Wx.kp G' k'
        have nn : Kn d g Hx H' := .kp k'
        have eD' := nn _ _ D5d D5g eD (by intro _ z; cases z)
        have off : TupK H' (upd H' D5 (.lst (ys ++ [v]))) := (TupK.of (Ext.refl _)).off eD'
        refine ⟨ys, eD', by rw [sizeLine_eq]; omega, (W'.off eD' D5d D5g D5c).mono (by omega), ?_, ys ++ [v], upd_same, by rw [List.length_append, hyl]; rfl, fun y hy => ?_⟩
        · exact fun b o bd' bg' e nt => by
            rw [upd_ne (ne_of_none e hD5)]
            exact nx.trans nn b o bd' bg' e nt
        · rcases List.mem_append.mp hy with hy | hy
          · exact ((hys y hy).tk (Wx.G.tk nn)).tk off
          · rw [List.mem_singleton.mp hy]
            exact ((hlf8 v hv).tk (W8.G.tk (nx.trans nn))).tk off
      rintro H9 ⟨W9, n89, ys, eD9, hyl, hys⟩
      have eC9 := n89 _ _ C1d C1g eC8 (by intro _ z; cases z)
      have f9 := n89 _ _ q1d q1g f8 (by intro _ z; cases z)
      refine ⟨D5, ys, rfl, .inl ⟨SqL.of eD9, fun q2 hq2 => ?_⟩⟩
      have s10 := Same.new (o := .tup ys) (Same.refl H9) hq2
      refine ⟨q1, q2, [.str l.1], ys, rfl, rfl, SqT.of (s10 _ _ f9), SqT.of upd_same, by simp, by simp only [List.length_cons, List.length_nil]; rw [sizeLine_eq]; omega, fun e => absurd (congrArg List.length e) (by rw [hyl]; simp), fun _ p hp => ?_⟩
      have s11 := s10.trans (Same.new (o := .tup ([.str l.1] ++ ys)) (Same.refl _) hp)
      have f11 := upd_same (H := upd H9 q2 (.tup ys)) (a := p) (o := .tup ([.str l.1] ++ ys))
      generalize upd (upd H9 q2 (.tup ys)) p (.tup ([.str l.1] ++ ys)) = H11 at s11 f11 ⊢
      have W11 := W9.same s11
      have n911 : Kn d g H9 H11 := .same s11
      have n11 : Kn d g H H11 := ((n5.trans n58).trans n89).trans n911
      have eC11 := s11 _ _ eC9
      obtain ⟨gs, i1, i2, i3, i4, i5⟩ := terms_in (r := 1) (h := 1) fun y hy => by
        obtain ⟨gg, a1, a2, a3, a4, a5⟩ := (hys y hy).tk (TupK.of (Ext.of s11))
        exact (⟨gg, a1, a2, by omega, by omega, a5⟩ : TermIn K L 1 1 H11 y)
      have hfl' := find_nd S.nd hlm
      have hfs : (find L l.1).isSome = true := by rw [hfl']; rfl
      have hnf := name_fine (S.ok.nm l hlm)
      have okT : Ok L (.t (.s l.1 :: gs)) := Ok.mk' hfs hnf i2
      rw [hyl] at i3
      have hgl : gs.length = yn + 2 := by rw [← i1.len, hyl]
      have hpT : points (.t (.s l.1 :: gs)) ≤ 9 := by
        rw [points_t]
        have : (yn + 2) * max 1 1 = yn + 2 := by simp
        omega
      have hdT : deep (.t (.s l.1 :: gs)) ≤ 2 := by
        rw [deep_t]
        omega
      have hdp' := okT.dp
      have hsz := okT.sz
      refine ⟨_, rfl, ll, L, rfl, ⟨xs, SqL.of (hid_le _ _ (n11.hid _ _ ex (by intro _ z; cases z))), dp_sameAll hid_le _ _ (dpr_ext n11.hid _ hdp)⟩, S.ok, S.nd, fun H12 pk s12 hpk => ?_⟩
      have W12 := W11.same s12
      refine ⟨_, rfl, pk, L, .ref p, .t (.s l.1 :: gs), rfl, hpk, S.ok, .t (SqT.of (s12 _ _ f11)) (.cons (.s _) (i1.same s12)), okT.wf, okT.fine, by omega, by omega, W12.T, fun H13 v' e13 t13 hv' => ?_⟩
      have W13 := W12.ext e13 t13
      have n13 : Kn d g H H13 := (n11.trans (.same s12)).trans (.ext e13)
      have eC13 := e13 _ _ (s12 _ _ eC11) (by intro _ z; cases z)
      have okL := okT.laid
      have hLs := laid_less (L := L) _ _ (Nat.le_refl _) okT.shp okT.fine
      have hp9 := hLs.pts
      have hd9 := hLs.deep
      have hsT : stands L (.t (.s l.1 :: gs)) = true := by
        rw [stands_t, Bool.and_eq_true_iff]
        refine ⟨?_, List.all_eq_true.mpr fun p hp => (i5 p hp).st⟩
        simp only [hasParts, hfl', hgl, hrow', if_true]
        exact decide_eq_true (by omega)
      have em : gs.map (laid L) = gs := (List.map_congr_left fun p hp => (i5 p hp).ld).trans (List.map_id _)
      have dp1 : ∀ g ∈ gs, deep g ≤ 1 := fun g hg' => by
        have := le_maxl (List.mem_map.mpr ⟨g, hg', rfl⟩ : deep g ∈ gs.map deep)
        omega
      rw [laid_t, em] at hv' okL hp9 hd9
      have asl : (arr (kindOf L l.1) l.1 gs).length ≤ 8 := by
        rw [(arr_perm _ _ _).length_eq]
        unfold opn
        split
        · have := flat1_len (h := l.1) dp1
          omega
        · omega
      generalize has : arr _ _ _ = as at hv' okL hp9 hd9 asl
      have cutS := std_cut S.ok hsT i5 has.symm
      rw [List.take_of_length_le asl] at cutS
      -- in a cap, where there is one
      refine ⟨_, rfl, (by show 0 ≤ sizeLine; decide), fun e1 he1 => ⟨D2, e1, cs, rfl, rfl, SqL.of (Same.new (o := .lst []) (Same.refl H13) he1 _ _ eC13), SqL.of upd_same, _, rfl, ?_⟩⟩
      have s14 := Same.new (o := .lst []) (Same.refl H13) he1
      have eC14 := s14 _ _ eC13
      have W14 := W13.same s14
      have n14 := n13.trans (.same (d := d) (g := g) s14)
      have hv14 := hv'.same s14
      generalize upd H13 e1 (.lst []) = H14 at s14 eC14 W14 n14 hv14 ⊢
      cases cs with
      | nil =>
        refine iteT_ (by rfl) ⟨_, rfl, k _ _ ⟨_, hv14, okL, by omega, by omega, cutS⟩ (W14.mono (by omega)) n14⟩
      | cons c0 cs' =>
        refine iteF_ (by simp) ?_
        refine ⟨_, rfl, _, rfl, d, g, c, D2, _, _, rfl, W14.G, by omega, eC14, C1g, by simp, by omega, fun vc H15 hvc G15 k15 => ⟨_, rfl, (by show 2 ≤ sizeLine; decide), fun p2 hp2 => ?_⟩⟩
        obtain ⟨lc, hlcm, ⟨hc1, hc2⟩, rfl⟩ := hcn vc hvc
        have W15 := W14.kp G15 k15
        have s16 := Same.new (o := .tup [.str lc.1, v']) (Same.refl H15) hp2
        have hfc := find_nd S.nd hlcm
        have okC : Ok L (.t [.s lc.1, .t (.s l.1 :: as)]) := Ok.mk' (by rw [hfc]; rfl) (name_fine (S.ok.nm lc hlcm)) fun p hp => by rw [List.mem_singleton.mp hp]; exact okL
        have hv15 := in_tk (W14.G.tk (.kp k15)) _ _ okL.shp hv14
        refine k _ _ ⟨_, .t (SqT.of upd_same) (.cons (.s _) (.cons (hv15.same s16) .nil)), okC, ?_, ?_, cap_std hfc hc1 hc2 cutS⟩ ((W15.same s16).mono (by omega)) ((n14.trans (.kp k15)).trans (.same s16))
        · rw [points_t]
          simp only [List.map_cons, List.map_nil, List.sum_cons, List.sum_nil]
          omega
        · rw [deep_t]
          simp only [List.map_cons, List.map_nil, maxl, List.foldr]
          omega
end
end K1
set_option Elab.async false
set_option linter.all false
set_option maxRecDepth 100000
set_option maxHeartbeats 1000000
namespace K1
open PySem PySem.Spec PyProof.Rows L2
open PySem.W (EachIs)
theorem sgl_hid {K : PySem.W.Frag} {C x rt td d g c : Addr} {ys : List V} {L : List Ln} {H : Hp} {t : Nat} (A : SgAt K C H x rt td ys (L.map (·.1))) (D : DpAll K H ys (L.map rowD)) (G : Gen d g c t H) (xd : x ≠ d) (xg : x ≠ g) (td1 : td ≠ d) (tg1 : td ≠ g) : SgL K C (hid [d, g] H) x L := by
  obtain ⟨dx, h1⟩ := A.ob
  exact ⟨rt, td, ys, ⟨⟨dx, hid_get xd xg h1⟩, G.tkh.sqt A.rt, hid_get td1 tg1 A.td, A.len, A.nd⟩, dpr_tk G.tkh _ D⟩
theorem kd_ne {L : List Ln} {g c : Addr} {r t : Int} : kd L ≠ stK g c r t := by
  cases L with
  | nil => intro z; cases z
  | cons l L =>
    intro z
    have := congrArg (fun q => q.head?) z
    simp [kd, stK] at this
theorem Sg.data {L : List Ln} (S : Sg L) : okD (.list (L.map rowD)) = true := by
  have hl2 := S.ok.len
  have key : ∀ e ∈ L.map rowD, fineD e = true ∧ PyData.canLay0 e = true ∧ PyData.depth e ≤ 20 := fun e he => by
    obtain ⟨l, hl, rfl⟩ := List.mem_map.mp he
    obtain ⟨_, _, k1, k2⟩ := kinds_ok _ (S.ok.kd l hl)
    obtain ⟨f1, f2⟩ := name_fine (S.ok.nm l hl)
    obtain ⟨n, k, m⟩ := l
    refine ⟨?_, ?_, ?_⟩
    · simp only [rowD, fineD, fineAll, List.length_cons, List.length_nil, Bool.and_eq_true, decide_eq_true_iff]
      simp only at f1 k1
      refine ⟨by omega, by omega, by omega, trivial, trivial⟩
    · simp only [rowD, PyData.canLay0, PyData.canLayAll0, Bool.and_eq_true]
      exact ⟨f2, k2, trivial, trivial⟩
    · simp [rowD, PyData.depth, PyData.depthAll]
  refine ok_of ?_ ?_ ?_
  · simp only [PyData.canLay0]
    exact layAll_of fun e he => (key e he).2.1
  · show (decide ((L.map rowD).length ≤ 1000) && fineAll (L.map rowD)) = true
    rw [List.length_map, decide_eq_true (by omega : L.length ≤ 1000), fineAll_of fun e he => (key e he).1]
    rfl
  · have := depAll_of (n := 20) fun e he => (key e he).2.2
    simp only [PyData.depth]
    omega
theorem tp_of_shp {g : G} (h : shp g = true) : tp g = true := shp_tp _ g (Nat.le_refl _) h
/-- as != bs, of lists of the same things -/
theorem ne_same {K : PySem.W.Frag} {H : Hp} {a b : Addr} {us ws : List V} {gs : List G} {Q : VK} (ea : H a = some (.lst us)) (eb : H b = some (.lst ws)) (ia : InL K H us gs) (ib : InL K H ws gs) (hs : ∀ g ∈ gs, shp g = true ∧ fine g = true ∧ dp g ≤ 58) (q : Q (.bl false) H) : rNeD K (.ref a) (.ref b) H Q := by
  have hsh : SeqAt.shaped (.list (gs.map toD)) = true := by
    have h1 := toD_okT 59 (.t gs) (by
      rw [dp_t]
      have : maxl (gs.map dp) ≤ 58 := maxl_le.mpr fun m hm => by
        obtain ⟨g, hg, rfl⟩ := List.mem_map.mp hm
        exact (hs g hg).2.2
      omega) (tp_mk fun g hg => tp_of_shp (hs g hg).1) (fine_mk fun g hg => (hs g hg).2.1)
    rw [toD] at h1
    obtain ⟨h2, h3⟩ := h1
    simp only [PyData.canLay0] at h2
    simp only [PyData.depth] at h3
    refine Bool.and_eq_true_iff.mpr ⟨by simpa [PyData.canLay0] using h2, decide_eq_true ?_⟩
    simp only [PyData.depth]
    omega
  have d1 : Dp K H (.ref a) (.list (gs.map toD)) := .lst (SqL.of ea) (dp_all0 _ _ (fun g hg v hv => in_dpT g v (tp_of_shp (hs g hg).1) hv) ia)
  have d2 : Dp K H (.ref b) (.list (gs.map toD)) := .lst (SqL.of eb) (dp_all0 _ _ (fun g hg v hv => in_dpT g v (tp_of_shp (hs g hg).1) hv) ib)
  refine ⟨_, _, d1, d2, hsh, hsh, ?_⟩
  have e : PyData.eqv (.list (gs.map toD)) (.list (gs.map toD)) = true := by
    show PyData.eqvAll (gs.map toD) (gs.map toD) = true
    rw [eqvAll_toD fun x hx y hy => eqv_toDT _ x y (Nat.le_refl _) (tp_of_shp (hs x hx).1) (tp_of_shp (hs y hy).1)]
    simp
  rw [e]
  exact q
end K1
set_option Elab.async false
set_option linter.all false
set_option maxRecDepth 100000
set_option maxHeartbeats 4000000
namespace K1
open PySem PySem.Spec PyProof.Rows L2
open PySem.W (EachIs)
abbrev sLaw : Stmt := topS 65
abbrev nLaw : List Str := ["_law_script", "_law_state", "_law_turn", "_law_way", "_law_rows", "_law_kinds_here", "_law_book", "_law_tree", "_law_due", "_law_found"]
theorem bl3 : Blk ["A", "Bc", "Zzzz"] := ⟨by decide, by decide, by decide +kernel, by decide +kernel⟩
def spLaw (K : PySem.W.Frag) (T : List (Addr × Str)) : Sp := fun vs H Q _ => ∃ (a : Addr) (ns : List Int), vs = [.ref a] ∧ SqL K H a (ns.map V.int) ∧ ns.length ≤ 63 ∧ LamX.Tabs T H ∧ ∀ H', Q (.bl true) H'
section
variable {P : Program} {w : World} {K : PySem.W.Frag} {mg : Str → Option Value} {base : Heap}
theorem scLaw : FnScope nLaw ["_law_script"] (defScope sLaw) := ⟨rfl, rfl, rfl, by decide +kernel, rfl, by decide +kernel, by decide +kernel⟩
theorem ok_law {f C CN CT fI cc f1 : Addr} {fd fdI fd1 : FuncData} {TT : List (Addr × Str)} {M mt mo mb ma mr mw nA nR : Nat} (F : FunC K "law" sLaw f fd cc)
    (B : Ct mg) (Gk : SgC K C) (gC : mg "Signs" = some (.ref C)) (MK : Mk K C fI) (FI : FnOk P w K mg base (L2.CX P w) 5 fI fdI ["self", "rows"] (spInit K C CN)) (bI : Binds K fdI ["self", "rows"] [])
    (DB : Df P w K mg base C8.CX0 "_law_begun" 1 ["_law_script"] (spBegun K)) (DT : Df P w K mg base C8.CX0 "_law_take" 2 ["_law_state", "_law_size"] spTake)
    (DR : Df P w K mg base C8.CX0 "_law_sign_rows" 4 ["_law_state"] (spSgR K TT)) (DK : Df P w K mg base C8.CX0 "_law_kinds" 1 ["_law_rows"] (spKinds K)) (DTe : Df P w K mg base C8.CX0 "_law_term" mt ["_law_state", "_law_rows", "_law_blanks", "_law_room", "_law_height"] (spTerm K TT 8))
    (DWi : Df P w K mg base C8.CX0 "_law_wide" mw ["_law_state", "_law_rows"] (spWideL K TT)) (DDr : Df P w K mg base C8.CX0 "_law_draft" mo ["_law_state", "_law_kinds_here", "_law_tree"] (spDraftT K TT))
    (DAl : Df P w K mg base C8.CX0 "_law_all_seen" ma ["_law_kinds_here", "_law_tree"] (spAll K nA)) (DRi : Df P w K mg base C8.CX0 "_law_rising" mr ["_law_terms"] (spRise K nR))
    (F1 : FnOk P w K mg base (L2.CX P w) mb f1 fd1 ["signs", "term"] (spSeen K C CT)) (g1 : mg "seen" = some (.ref f1)) (k1 : PySem.W.keepIn K (.ref f1) = true) (b1 : Binds K fd1 ["signs", "term"] []) (kb1 : KBn K fd1 ["signs", "term"] 0 ["term", "signs"] (fun _ ws => ws.reverse) (fun _ zs => zs.reverse))
    (h6 : 6 ≤ M) (hmt : mt ≤ M) (hmo : mo ≤ M) (hmb : mb ≤ M) (hma : ma ≤ M) (hmr : mr ≤ M) (hmw : mw ≤ M) (hnA : 13 ≤ nA) (hnR : 13 ≤ nR) :
    FnG P w K mg base (M + 1) f fd ["_law_script"] (spLaw K TT) := by
  refine F.okG scLaw (fun vs H Q E h => ?_) (fun A outer s H vs Q E hg hr h => ?_)
  · obtain ⟨a, ns, rfl, _⟩ := h
    rfl
  · obtain ⟨a, ns, rfl, hS, hns, hTab, k⟩ := h
    have hr6 : Room 6 _ := hr.mono h6
    have hrb : Room mb _ := hr.mono hmb
    have hu' := hu_of hr
    refine ⟨_, pss_cons (ps_set (i := 1) scLaw.nd rfl (by first | exact Or.inl rfl | exact Or.inr rfl) (pe_df DB hr6 pass0 (pa_cons (pv 0) pa_nil)))
      (pss_cons (ps_for PassesOwn.never rfl (pi_range1 rfl B.range (pa_cons pe_int pa_nil)) (pg_name (i := 2) scLaw.nd rfl (by first | exact Or.inl rfl | exact Or.inr rfl))
        (pss_cons (ps_set (i := 3) scLaw.nd rfl (by first | exact Or.inl rfl | exact Or.inr rfl) (pe_df DT hr6 pass0 (pa_cons (pv 1) (pa_cons pe_int pa_nil))))
        (pss_cons (ps_set (i := 4) scLaw.nd rfl (by first | exact Or.inl rfl | exact Or.inr rfl) (pe_df DR hr6 pass0 (pa_cons (pv 1) pa_nil)))
        (pss_cons (ps_par (i := 5) (j := 6) (by rfl) scLaw.nd rfl rfl (by decide) rfl rfl (pa_cons (pe_df DK hr6 pass0 (pa_cons (pv 4) pa_nil)) (pa_cons (pe_make MK FI hr6 (by rfl) gC bI .nil passX (pa_cons (pv 4) pa_nil)) pa_nil)) (by rfl))
        (pss_cons (ps_set (i := 7) scLaw.nd rfl (by first | exact Or.inl rfl | exact Or.inr rfl) (pe_df DWi (hr.mono hmw) pass0 (pa_cons (pv 1) (pa_cons (pv 4) pa_nil)) (Nat.le_refl _)))
        (C8.pss_cut (ps_if (pt_cmpR op_gt (pv 3) pe_int (nomark _)) (pss_one (ps_set (i := 7) scLaw.nd rfl (by first | exact Or.inl rfl | exact Or.inr rfl) (pe_df DTe (hr.mono hmt) pass0 (pa_cons (pv 1) (pa_cons (pv 4) (pa_cons (pe_lst (pa_cons pe_str (pa_cons pe_str (pa_cons pe_str pa_nil)))) (pa_cons (pe_op op_add pe_int (pe_df DT hr6 pass0 (pa_cons (pv 1) (pa_cons pe_int pa_nil)))) (pa_cons pe_int pa_nil))))) (Nat.le_refl _)))) pss_nil)
        (pss_cons (ps_set (i := 8) scLaw.nd rfl (by first | exact Or.inl rfl | exact Or.inr rfl) (pe_df DRi (hr.mono hmr) pass0 (pa_cons (pe_df DAl (hr.mono hma) pass0 (pa_cons (pv 5) (pa_cons (pv 7) pa_nil)) (Nat.le_refl _)) pa_nil) (Nat.le_refl _)))
        (pss_cons (ps_set (i := 9) scLaw.nd rfl (by first | exact Or.inl rfl | exact Or.inr rfl) (pe_call F1 hrb (by rfl) g1 k1 b1 .nil passX (pa_cons (pv 6) (pa_cons (pe_df DDr (hr.mono hmo) pass0 (pa_cons (pv 1) (pa_cons (pv 5) (pa_cons (pv 7) pa_nil))) (Nat.le_refl _)) pa_nil))))
        (C8.pss_cut (ps_if (PW.pt (pw_or (pt_not (pt_val (pe_callB call_isi (by rfl) B.isi boot_isinstance (pa_cons (pv 9) (pa_cons (pe_bltn (v := .ty "list") (by rfl) B.list boot_list rfl) pa_nil))))) (pw_or1 (pt_cmpR (op_neD hr.units) (pv 9) (pv 8) (nomark _))))) (pss_one (ps_ret pe_bl)) pss_nil)
        (pss_cons (ps_expr (pe_bm PySem.F.plainAttrs_list PySem.F.slot_list_append PySem.F.type_list_append mt_append (pv 9) (pa_cons pe_str pa_nil)))
        (pss_cons (ps_expr (pe_bm0 PySem.F.plainAttrs_list PySem.F.slot_list_reverse PySem.F.type_list_reverse mt_reverse (pv 9)))
        (pss_one (ps_if (PW.pt (pw_or (pt_cmpR (op_neD hr.units) (pe_call F1 hrb (by rfl) g1 k1 b1 .nil passX (pa_cons (pv 6) (pa_cons (pv 7) pa_nil))) (pv 8) (nomark _))
            (pw_or1 (pt_cmpR (op_neD hr.units) (pe_callN0 F1 hrb (by rfl) g1 k1 kb1 passX (pk_cons (pv 7) (pk_cons (pv 6) pk_nil))) (pv 8) (nomark _))))) (pss_one (ps_ret pe_bl)) pss_nil)))))))))))))
      (pss_one (ps_ret pe_bl))), ?_⟩
    have budg : (6 : Nat) ^ (8 + 1) = 10077696 := by decide
    refine ⟨_, rfl, a, ns, rfl, hS, hns, fun d g c H1 G1 s1 _ _ => ?_⟩
    have W1 : Wd TT d g c 0 H1 := ⟨G1, hTab.ext s1⟩
    refine ⟨3, rfl, by decide, by decide, for_range (lo := 0) (n := 3) (fun i σ H' => ∃ v2 v3 v4 v5 v6 v7 v8 v9 : Option V, σ = [some (.ref a), some (.ref d), v2, v3, v4, v5, v6, v7, v8, v9] ∧ Wd TT d g c (10080000 * i) H')
      ⟨none, none, none, none, none, none, none, none, rfl, W1.mono (by omega)⟩ ?_ ?_⟩
    rotate_left
    · rintro σ H6 ⟨v2, v3, v4, v5, v6, v7, v8, v9, rfl, W6⟩
      exact k H6
    rintro i σ H0 hi ⟨v2, v3, v4, v5, v6, v7, v8, v9, rfl, W0⟩
    refine ⟨_, rfl, d, g, c, _, 3, rfl, W0.G, by omega, by decide, by decide, fun u Ha u0 u1 Ga ka0 => ?_⟩
    have Wa := W0.kp Ga ka0
    refine ⟨_, rfl, d, g, c, _, rfl, Wa, by omega, fun ll L xs H2 ex hdp S W2 n12 => ?_⟩
    obtain ⟨lld, llg, ex0⟩ := hid_got ex
    refine ⟨_, rfl, ll, L, rfl, Lst.same (H := hid [d, g] H2) hid_le ⟨xs, SqL.of ex, hdp⟩, S.ok, S.nd, fun H3 ka s23 hka => ?_⟩
    have W3 := W2.same s23
    obtain ⟨kad, kag⟩ : ka ≠ d ∧ ka ≠ g := by
      obtain ⟨_, gs, cs, r, u, e1, e2, e3, e4⟩ := W3.G
      refine ⟨fun z => ?_, fun z => ?_⟩
      · rw [z, e1] at hka
        exact kd_ne (HO.dK.inj (Option.some.inj hka)).symm
      · rw [z, e2] at hka
        cases hka
    refine ⟨_, rfl, fun x dx hx hdx hxd => ?_⟩
    have m0 := same_made0 (C := C) hx hdx
    have dmL : Dm K H3 (.ref ll) (.list (L.map rowD)) := .dat (.lst (SqL.of (s23 _ _ ex0)) (dp_sameAll (hid_le.trans s23) _ _ hdp))
    refine ⟨x, dx, .ref ll, .list (L.map rowD), rfl, upd_same, dmL.same m0, S.data, fun _ rt td ys H4 A4 D4 td0 keep => ⟨rfl, ?_⟩, fun z => absurd z (by rw [S.signs]; decide)⟩
    have s34 := same_made hx hdx keep
    have ens : (itemsD (.list (L.map rowD))).map nameOf = L.map (·.1) := by
      show (L.map rowD).map nameOf = _
      rw [List.map_map]
      rfl
    rw [ens] at A4
    have W4 := W3.same s34
    have tdn : H3 td = none := by
      cases e : H3 td with
      | none => rfl
      | some o => rw [m0 _ _ e] at td0; cases td0
    obtain ⟨xd, xg⟩ := W3.G.nd hx
    obtain ⟨tdd, tdg⟩ := W3.G.nd tdn
    have Sg4 : SgL K C (hid [d, g] H4) x L := sgl_hid A4 D4 W4.G xd xg tdd tdg
    obtain ⟨H5, s45, hH5⟩ : ∃ H5 : Hp, Same H4 H5 ∧ H4 = H5 := ⟨_, Same.refl _, rfl⟩
    have W5 := W4.same s45
    have n25 : Kn d g H2 H5 := .same ((s23.trans s34).trans s45)
    have ex5 := n25.hid _ _ ex (by intro _ z; cases z)
    have hd5 := dpr_ext n25.hid _ hdp
    have hka5 : hid [d, g] H5 ka = some (.dK (kd L)) := (Kn.same (d := d) (g := g) (s34.trans s45)).hid _ _ (hid_get kad kag hka) (by intro _ z; cases z)
    have Sg5 : SgL K C (hid [d, g] H5) x L := Sg4.ext (Kn.same s45).hid
    clear ex0 hka A4 D4 td0 keep tdn Sg4
    rw [hH5]
    -- the term
    refine ⟨_, _, rfl, ?_⟩
    refine ⟨_, rfl, _, rfl, d, g, c, ll, _, L, xs, rfl, W5, ex5, hd5, S, by omega, fun vt H6 hvt6 W6 n56 => ?_⟩
    refine ⟨fun σ' H' => ∃ (vt : V) (gt : G), σ' = [some (.ref a), some (.ref d), some (.int (0 + i)), some (.int u), some (.ref ll), some (.ref ka), some (.ref x), some vt, v8, v9] ∧ Wd TT d g c (10080000 * i + 10079000) H' ∧ Kn d g H5 H' ∧ In K H' vt gt ∧ Ok L gt ∧ points gt ≤ 30 ∧ deep gt ≤ 6 ∧ Std L gt, ?_, ?_⟩
    · refine ⟨_, rfl, _, _, rfl, rfl, _, rfl, ?_⟩
      refine ite2 (fun h1 => ?_) (fun h1 => ?_)
      · refine ⟨_, rfl, _, rfl, (by show 3 ≤ sizeLine; decide), fun bl hbl => ?_⟩
        have s8 := Same.new (o := .lst [.str "A", .str "Bc", .str "Zzzz"]) (Same.refl H6) hbl
        obtain ⟨bd, bg⟩ := W6.G.nd hbl
        have W8 := W6.same s8
        have n58 : Kn d g H5 _ := n56.trans (.same s8)
        have Sd8 : Sd K d g ll bl L ["A", "Bc", "Zzzz"] xs _ := ⟨n58.hid _ _ ex5 (by intro _ z; cases z), dpr_ext n58.hid _ hd5, hid_get bd bg upd_same, S.ok, S.nd, S.ne, bl3⟩
        refine ⟨_, rfl, d, g, c, _, 30, rfl, W8.G, by omega, by decide, by decide, fun z H9 z0 z1 G9 k9 => ?_⟩
        obtain ⟨zn, rfl⟩ := Int.eq_ofNat_of_zero_le z0
        have hzn : zn < 30 := by omega
        have W10 := W8.kp G9 k9
        refine ⟨_, _, rfl, rfl, ?_⟩
        refine ⟨d, g, c, ll, bl, _, L, _, xs, 1 + zn, 6, (by show [V.ref d, .ref ll, .ref bl, .int (1 + (zn : Int)), .int 6] = _; congr 4 <;> simp), W10, Sd8.kn (.kp k9), by omega, by omega, by decide, by decide, fun vt H10 hv10 W11 n910 => ?_⟩
        obtain ⟨gt, t1, t2, t3, t4, t5⟩ := hv10
        exact ⟨vt, gt, rfl, W11.mono (by omega), n58.trans ((Kn.kp k9).trans n910), t1, t2, by omega, by omega, t5⟩
      · obtain ⟨gt, t1, t2, t3, t4, t5⟩ := hvt6
        exact ⟨vt, gt, rfl, W6.mono (by omega), n56, t1, t2, by omega, by omega, t5⟩
    rintro σ' H7 ⟨vt, gt, rfl, W7, n57, t1, t2, t3, t4, t5⟩
    clear hvt6 W6 n56
    have zt := sz_pts _ gt (Nat.le_refl _) t2.shp
    have wt := stands_wide S.ok _ gt (Nat.le_refl _) t5.st
    have gkt := stands_gok S.ok _ gt (Nat.le_refl _) t5.st
    have lyt : lay0 L gt = true := lay0_of S.ok t5 ⟨t5.st, rfl⟩ (by omega) (by omega) (by omega) (by omega)
    have seen_ok : ∀ g', See L gt g' → shp g' = true ∧ fine g' = true ∧ dp g' ≤ 13 ∧ sz g' ≤ 2000 ∧ gok g' = true := fun g' h => by
      obtain ⟨a1, a2, a3, a4⟩ := see_less h t2.fine gkt
      exact ⟨see_shp h t2.shp, a1, by omega, by omega, a2⟩
    have hka7 := n57.hid _ _ hka5 (by intro _ z; cases z)
    obtain ⟨_, _, hka7r⟩ := hid_got hka7
    -- what is due
    refine ⟨_, rfl, _, rfl, ka, L, vt, gt, rfl, hka7r, t1, t2.wf, wt, by omega, by omega, fun H8 l8 us8 gs8 s78 e8 i8 c8 m8 => ?_⟩
    refine ⟨l8, us8, gs8, rfl, e8, i8, by omega, fun g' hg' => ?_, fun H9 l9 us9 acc9 s89 n9 e9 i9 B9 c9 => ?_⟩
    · obtain ⟨b1, b2, b3, b4, _⟩ := seen_ok g' ((m8 g').mp hg')
      exact ⟨b1, b2, by omega, b4⟩
    have B9' := B9.congr (S' := See L gt) m8
    have s79 := s78.trans s89
    have W9 := W7.same s79
    have n59 : Kn d g H5 H9 := n57.trans (.same s79)
    have hvt9 := t1.same s79
    have all9 : ∀ g' ∈ (sortFl acc9).map (·.2), shp g' = true ∧ fine g' = true ∧ dp g' ≤ 58 := fun g' hg' => by
      obtain ⟨q, hq, rfl⟩ := List.mem_map.mp hg'
      obtain ⟨b1, b2, b3, _⟩ := seen_ok _ (B9'.tx q (sortFl_mem hq)).2
      exact ⟨b1, b2, by omega⟩
    obtain ⟨l9d, l9g⟩ := (W7.same s78).G.nd n9
    have same_told : ∀ {acc : Fl}, ByT (See L gt) acc → (sortFl acc).map (·.2) = (sortFl acc9).map (·.2) := fun {acc} hb => by
      rw [byT_one hb B9' fun a b ha hb' e => text_inj (seen_ok a ha).2.2.2.2 (seen_ok b hb').2.2.2.2 e]
    -- what is found
    refine ⟨_, rfl, _, rfl, _, rfl, _, rfl, d, g, c, ka, _, L, vt, gt, rfl, W9, n59.hid _ _ hka5 (by intro _ z; cases z), S.ok, hvt9, t2, t5.st, by omega, by omega, by omega, fun vh H10 hv10 W10 n910 => ?_⟩
    obtain ⟨gh, q1, q2, q3, q4, q5⟩ := hv10
    have n510 := n59.trans n910
    have lyh : lay0 L gh = true := lay0_of S.ok t5 q5 q3 q4 (by omega) (by omega)
    have ldh : laid L gh = gt := by rw [q5.ld, t5.ld]
    have szh := (sz_pts _ gh (Nat.le_refl _) q2.shp).1
    refine ⟨x, L, vh, gh, rfl, (Sg5.ext n510.hid).same hid_le, S.ok, q1, q2.fine, by omega, lyh, fun H11 l11 us11 acc11 s1011 n11 e11 i11 B11 c11 => ?_⟩
    rw [ldh] at B11
    rw [same_told B11] at i11
    have W11 := W10.same s1011
    have n911 : Kn d g H9 H11 := n910.trans (.same s1011)
    have e9' := n911 _ _ l9d l9g e9 (by intro _ z; cases z)
    have i9' := inL_tk (W9.G.tk n911) _ _ (fun g' hg' => (all9 g' hg').1) i9
    have hvt11 := in_tk (W9.G.tk n911) _ _ t2.shp hvt9
    obtain ⟨l11d, l11g⟩ := W10.G.nd n11
    have l11c : l11 ≠ c := fun z => by
      obtain ⟨_, gs, cs, _, _, _, _, e3, _⟩ := W10.G
      rw [z, e3] at n11
      cases n11
    have ne911 : l9 ≠ l11 := ne_of_none (n910 _ _ l9d l9g e9 (by intro _ z; cases z)) n11
    have len11 : us11.length ≤ 60000 := by
      rw [i11.len, List.length_map, sortFl_len]
      omega
    refine ⟨fun σ' H' => σ' = [some (.ref a), some (.ref d), some (.int (0 + i)), some (.int u), some (.ref ll), some (.ref ka), some (.ref x), some vt, some (.ref l9), some (.ref l11)] ∧ H11 = H', ?_, ?_⟩
    · refine ⟨_, rfl, _, _, _, _, _, rfl, .ty "list", .base (.lst e11), kit_lst (.list []), _, rfl, ?_⟩
      refine iteF_ (by simp [isLst]) ⟨_, rfl, _, rfl, ne_same e11 e9' i11 i9' all9 ⟨_, rfl, iteF_ (by simp) ?_⟩⟩
      exact ⟨rfl, rfl⟩
    rintro σ' H' ⟨rfl, rfl⟩
    refine ⟨_, rfl, .inl ⟨rfl, _, SqL.of e11⟩, l11, us11, _, rfl, rfl, e11, by rw [sizeLine_eq]; omega, ?_⟩
    refine ⟨_, rfl, .inl ⟨rfl, _, SqL.of upd_same⟩, l11, _, rfl, rfl, upd_same, ?_⟩
    obtain ⟨Hr, hHr⟩ : ∃ Hr : Hp, upd (upd H11 l11 (.lst (us11 ++ [V.str "A"]))) l11 (.lst (us11 ++ [V.str "A"]).reverse) = Hr := ⟨_, rfl⟩
    have W12 : Wd TT d g c (10080000 * i + 10079320) Hr := by
      rw [← hHr]
      exact ((W11.off e11 l11d l11g l11c).off upd_same l11d l11g l11c).mono (by omega)
    have n1012 : Kn d g H10 Hr := by
      rw [← hHr]
      exact ((Kn.same s1011).updD n11).updD n11
    have tkr : TupK H11 Hr := by
      rw [← hHr]
      exact ((TupK.of (Ext.refl H11)).off e11).off upd_same
    have n5r := n510.trans n1012
    have e9r : Hr l9 = some (.lst us9) := by
      rw [← hHr, upd_ne ne911, upd_ne ne911]
      exact e9'
    have i9r := inL_tk tkr _ _ (fun g' hg' => (all9 g' hg').1) i9'
    have hvtr := in_tk tkr _ _ t2.shp hvt11
    have Sgr : SgL K C Hr x L := (Sg5.ext n5r.hid).same hid_le
    rw [hHr]
    refine ⟨_, rfl, _, rfl, x, L, vt, gt, rfl, Sgr, S.ok, hvtr, t2.fine, by omega, lyt, fun H13 l13 us13 acc13 s13 n13 e13 i13 B13 c13 => ?_⟩
    rw [t5.ld] at B13
    rw [same_told B13] at i13
    refine ⟨_, rfl, ne_same e13 (s13 _ _ e9r) i13 (i9r.same s13) all9 ⟨_, rfl, iteF_ (by simp) ?_⟩⟩
    refine ⟨_, rfl, _, rfl, rfl, rfl, x, L, vt, gt, rfl, Sgr.same s13, S.ok, hvtr.same s13, t2.fine, by omega, lyt, fun H14 l14 us14 acc14 s14 n14 e14 i14 B14 c14 => ?_⟩
    rw [t5.ld] at B14
    rw [same_told B14] at i14
    have s1314 := s13.trans s14
    refine ⟨_, rfl, ne_same e14 (s1314 _ _ e9r) i14 (i9r.same s1314) all9 ⟨_, rfl, iteF_ (by simp) ?_⟩⟩
    exact ⟨_, _, _, _, _, _, _, _, rfl, (W12.same s1314).mono (by omega)⟩
end
end K1
set_option Elab.async false
set_option linter.all false
set_option maxRecDepth 100000
set_option maxHeartbeats 4000000
namespace K1
open PySem PySem.Spec PyProof.Rows L2
theorem tabs_nil {T : List (Addr × Str)} {cs : List (Addr × Addr)} {H : Hp} (h : ∀ p ∈ T, ∃ q ∈ cs, q.2 = p.1) (hH : ∀ p ∈ cs, H p.2 = some (.tbl #[])) : LamX.Tabs T H := fun p hp => by
  obtain ⟨q, hq, e⟩ := h p hp
  rw [← e]
  exact LamX.TabS.nil (hH q hq)
theorem dfk {P : Program} {w : World} {K : PySem.W.Frag} {mg : Str → Option Value} {base : Heap} {x : Str} {k : Nat} {ps : List Str} {sp : Sp} {f : Addr} {fd : FuncData} (h : FnOk P w K mg base C8.CX0 k f fd ps sp) (g : mg x = some (.ref f)) (kp : PySem.W.keepIn K (.ref f) = true) (b : Binds K fd ps []) : Df P w K mg base C8.CX0 x k ps sp := ⟨f, fd, h, g, kp, b⟩
theorem Df.up {P : Program} {w : World} {K : PySem.W.Frag} {mg : Str → Option Value} {base : Heap} {x : Str} {k j : Nat} {ps : List Str} {sp : Sp} (D : Df P w K mg base C8.CX0 x k ps sp) (h : k ≤ j) : Df P w K mg base C8.CX0 x j ps sp := by
  obtain ⟨f, fd, F, g, kp, b⟩ := D
  exact ⟨f, fd, F.mono h, g, kp, b⟩
theorem df_chain {P : Program} {w : World} {K : PySem.W.Frag} {mg : Str → Option Value} {base : Heap} {x : Str} {ps : List Str} (k : Nat → Nat) (sp : Nat → Sp) {f : Addr} {fd : FuncData} (g : mg x = some (.ref f)) (kp : PySem.W.keepIn K (.ref f) = true) (b : Binds K fd ps [])
    (h0 : FnOk P w K mg base C8.CX0 (k 0) f fd ps (sp 0)) (hs : ∀ n, Df P w K mg base C8.CX0 x (k n) ps (sp n) → FnOk P w K mg base C8.CX0 (k (n + 1)) f fd ps (sp (n + 1))) : ∀ n, Df P w K mg base C8.CX0 x (k n) ps (sp n)
  | 0 => ⟨f, fd, h0, g, kp, b⟩
  | n + 1 => ⟨f, fd, hs n (df_chain k sp g kp b h0 hs n), g, kp, b⟩
theorem df_chainB {P : Program} {w : World} {K : PySem.W.Frag} {mg : Str → Option Value} {base : Heap} {x : Str} {ps : List Str} (b0 : Nat) (k : Nat → Nat) (sp : Nat → Sp) {f : Addr} {fd : FuncData} (g : mg x = some (.ref f)) (kp : PySem.W.keepIn K (.ref f) = true) (b : Binds K fd ps [])
    (h0 : FnOk P w K mg base C8.CX0 (k 0) f fd ps (sp 0)) (hs : ∀ n, n < b0 → Df P w K mg base C8.CX0 x (k n) ps (sp n) → FnOk P w K mg base C8.CX0 (k (n + 1)) f fd ps (sp (n + 1))) : ∀ n, n ≤ b0 → Df P w K mg base C8.CX0 x (k n) ps (sp n)
  | 0, _ => ⟨f, fd, h0, g, kp, b⟩
  | n + 1, h => ⟨f, fd, hs n h (df_chainB b0 k sp g kp b h0 hs n (Nat.le_of_lt h)), g, kp, b⟩
theorem no_anew0 {K : PySem.W.Frag} {C : Addr} (vs : List V) (H : Hp) (Q : VK) (E : XK) : ¬ spAnew K C 0 vs H Q E := by
  rintro ⟨p, L, v, g, _, _, _, _, _, _, h, _⟩
  have := dp_pos g
  omega
theorem no_laid0 {K : PySem.W.Frag} {TT : List (Addr × Str)} (vs : List V) (H : Hp) (Q : VK) (E : XK) : ¬ spLLaid K TT 0 vs H Q E := by
  rintro ⟨a, L, v, g, _, _, _, _, _, _, h, _⟩
  have := dp_pos g
  omega
theorem no_term0 {K : PySem.W.Frag} {TT : List (Addr × Str)} (vs : List V) (H : Hp) (Q : VK) (E : XK) : ¬ spTerm K TT 0 vs H Q E := by
  rintro ⟨d, g, c, ll, bl, t, L, bs, xs, r, h, _, _, _, _, _, _, hh, _⟩
  omega
theorem no_loose0 {K : PySem.W.Frag} {TT : List (Addr × Str)} (vs : List V) (H : Hp) (Q : VK) (E : XK) : ¬ spLoose K TT 0 vs H Q E := by
  rintro ⟨d, g, c, ka, t, L, v, gg, _, _, _, _, _, _, _, h, _⟩
  have := dp_pos gg
  omega
theorem no_so0 {K : PySem.W.Frag} {C : Addr} (vs : List V) (H : Hp) (Q : VK) (E : XK) : ¬ spSo K C 0 vs H Q E := by
  rintro ⟨p, L, v, g, _, _, _, _, _, _, _, h, _⟩
  have := dp_pos g
  omega
theorem no_all0 {K : PySem.W.Frag} (vs : List V) (H : Hp) (Q : VK) (E : XK) : ¬ spAll K 0 vs H Q E := by
  rintro ⟨ka, L, v, g, _, _, _, _, _, h, _⟩
  have := dp_pos g
  omega
theorem kbn2 {K : PySem.W.Frag} {fd : FuncData} (h : ∀ u v : Value, bindArgs fd ⟨[], [("term", u), ("signs", v)]⟩ = pure [(("signs" : Str), v), ("term", u)]) : KBn K fd ["signs", "term"] 0 ["term", "signs"] (fun _ ws => ws.reverse) (fun _ zs => zs.reverse) :=
  ⟨fun s us ws _ l1 l2 => match us, ws, l1, l2 with | [], [u, v], _, _ => .of_eq (h u v), fun _ r2 => vals_rev r2⟩
theorem all_mk {l : PySem.W.OpenLaw} {w : World} {K : PySem.W.Frag} {h : Heap} {mg : Str → Option Value} {fa C CN CT PL fNum fLst fSma fNam fGap fSig fTex fPts fDee fWid fBey fHPa fDpt fMad fOpe fAne fOrn fLad fNei fSpl fGat fOwn fSos fByt fSee fBeg fMix fTak fPic fWor fSgr fLKi fLTe fLPo fLDe fLea fTrm fLoo fDft fSub fPla fAll fRis fWil fLai fLaw fmIn fmHa fmKi fmMa kLai kLaw : Addr} (X : K.In h) (G : h.Ns mainGlobals mg) (hfa : mg "law" = some (.ref fa))
    {cdNum ocNum kVNum dcNum pmNum ctNum cdLst ocLst kVLst dcLst pmLst ctLst cdSma ocSma kVSma dcSma pmSma ctSma cdNam ocNam kVNam dcNam pmNam ctNam cdGap ocGap kVGap dcGap pmGap ctGap cdSig ocSig kVSig dcSig pmSig ctSig cdTex ocTex kVTex dcTex pmTex ctTex cdPts ocPts kVPts dcPts pmPts ctPts cdDee ocDee kVDee dcDee pmDee ctDee cdWid ocWid kVWid dcWid pmWid ctWid cdBey ocBey kVBey dcBey pmBey ctBey cdHPa ocHPa kVHPa dcHPa pmHPa ctHPa cdDpt ocDpt kVDpt dcDpt pmDpt ctDpt cdMad ocMad kVMad dcMad pmMad ctMad cdOpe ocOpe kVOpe dcOpe pmOpe ctOpe cdAne ocAne kVAne dcAne pmAne ctAne cdOrn ocOrn kVOrn dcOrn pmOrn ctOrn cdLad ocLad kVLad dcLad pmLad ctLad cdNei ocNei kVNei dcNei pmNei ctNei cdSpl ocSpl kVSpl dcSpl pmSpl ctSpl cdGat ocGat kVGat dcGat pmGat ctGat cdOwn ocOwn kVOwn dcOwn pmOwn ctOwn cdSos ocSos kVSos dcSos pmSos ctSos cdByt ocByt kVByt dcByt pmByt ctByt cdSee ocSee kVSee dcSee pmSee ctSee cdBeg ocBeg kVBeg dcBeg pmBeg ctBeg cdMix ocMix kVMix dcMix pmMix ctMix cdTak ocTak kVTak dcTak pmTak ctTak cdPic ocPic kVPic dcPic pmPic ctPic cdWor ocWor kVWor dcWor pmWor ctWor cdSgr ocSgr kVSgr dcSgr pmSgr ctSgr cdLKi ocLKi kVLKi dcLKi pmLKi ctLKi cdLTe ocLTe kVLTe dcLTe pmLTe ctLTe cdLPo ocLPo kVLPo dcLPo pmLPo ctLPo cdLDe ocLDe kVLDe dcLDe pmLDe ctLDe cdLea ocLea kVLea dcLea pmLea ctLea cdTrm ocTrm kVTrm dcTrm pmTrm ctTrm cdLoo ocLoo kVLoo dcLoo pmLoo ctLoo cdDft ocDft kVDft dcDft pmDft ctDft cdSub ocSub kVSub dcSub pmSub ctSub cdPla ocPla kVPla dcPla pmPla ctPla cdAll ocAll kVAll dcAll pmAll ctAll cdRis ocRis kVRis dcRis pmRis ctRis cdWil ocWil kVWil dcWil pmWil ctWil ocLai kVLai dcLai pmLai ctLai ocLaw kVLaw dcLaw pmLaw ctLaw cdmIn ocmIn kVmIn dcmIn pmmIn ctmIn cdmHa ocmHa kVmHa dcmHa pmmHa ctmHa cdmKi ocmKi kVmKi dcmKi pmmKi ctmKi cdmMa ocmMa kVmMa dcmMa pmmMa ctmMa : Value} {odNum anNum odLst anLst odSma anSma odNam anNam odGap anGap odSig anSig odTex anTex odPts anPts odDee anDee odWid anWid odBey anBey odHPa anHPa odDpt anDpt odMad anMad odOpe anOpe odAne anAne odOrn anOrn odLad anLad odNei anNei odSpl anSpl odGat anGat odOwn anOwn odSos anSos odByt anByt odSee anSee odBeg anBeg odMix anMix odTak anTak odPic anPic odWor anWor odSgr anSgr odLKi anLKi odLTe anLTe odLPo anLPo odLDe anLDe odLea anLea odTrm anTrm odLoo anLoo odDft anDft odSub anSub odPla anPla odAll anAll odRis anRis odWil anWil odLai anLai odLaw anLaw odmIn anmIn odmHa anmHa odmKi anmKi odmMa anmMa : Option Addr} {slNum slLst slSma slNam slGap slSig slTex slPts slDee slWid slBey slHPa slDpt slMad slOpe slAne slOrn slLad slNei slSpl slGat slOwn slSos slByt slSee slBeg slMix slTak slPic slWor slSgr slLKi slLTe slLPo slLDe slLea slTrm slLoo slDft slSub slPla slAll slRis slWil slLai slLaw slmIn slmHa slmKi slmMa : Array (Option Value)} {tSM tNL tMS tMP tGR tGL tPO tDE tPA : PySem.Tok}
    {ts : List Addr} (hT : ∀ P ∈ ts, h.get? P = some (PySem.W.tabObj #[]))
    (gC : PySem.W.nsIn K mainGlobals "Signs" = some (some (.ref C)))
    (gCN : PySem.W.nsIn K mainGlobals "NoSigns" = some (some (.ref CN)))
    (gCT : PySem.W.nsIn K mainGlobals "NoTerm" = some (some (.ref CT)))
    (aNum : PySem.W.nsIn K mainGlobals "is_number" = some (some (.ref fNum)))
    (lNum : K.lookup fNum = some ⟨ocNum, odNum, .func (PySem.W.fnOf "is_number" "is_number" (defArgs sNum) (defBody sNum) (defScope sNum) .none kVNum dcNum pmNum anNum cdNum ctNum), slNum⟩)
    (cNum : PySem.W.codeIn K cdNum "is_number" = true)
    (kNum_ : PySem.W.keepIn K (.ref fNum) = true)
    (aLst : PySem.W.nsIn K mainGlobals "is_list" = some (some (.ref fLst)))
    (lLst : K.lookup fLst = some ⟨ocLst, odLst, .func (PySem.W.fnOf "is_list" "is_list" (defArgs sList) (defBody sList) (defScope sList) .none kVLst dcLst pmLst anLst cdLst ctLst), slLst⟩)
    (cLst : PySem.W.codeIn K cdLst "is_list" = true)
    (kLst_ : PySem.W.keepIn K (.ref fLst) = true)
    (aSma : PySem.W.nsIn K mainGlobals "is_small" = some (some (.ref fSma)))
    (lSma : K.lookup fSma = some ⟨ocSma, odSma, .func (PySem.W.fnOf "is_small" "is_small" (defArgs sSmall) (defBody sSmall) (defScope sSmall) .none kVSma dcSma pmSma anSma cdSma ctSma), slSma⟩)
    (cSma : PySem.W.codeIn K cdSma "is_small" = true)
    (kSma_ : PySem.W.keepIn K (.ref fSma) = true)
    (aNam : PySem.W.nsIn K mainGlobals "is_name" = some (some (.ref fNam)))
    (lNam : K.lookup fNam = some ⟨ocNam, odNam, .func (PySem.W.fnOf "is_name" "is_name" (defArgs sName) (defBody sName) (defScope sName) .none kVNam dcNam pmNam anNam cdNam ctNam), slNam⟩)
    (cNam : PySem.W.codeIn K cdNam "is_name" = true)
    (kNam_ : PySem.W.keepIn K (.ref fNam) = true)
    (aGap : PySem.W.nsIn K mainGlobals "is_gap" = some (some (.ref fGap)))
    (lGap : K.lookup fGap = some ⟨ocGap, odGap, .func (PySem.W.fnOf "is_gap" "is_gap" (defArgs sGap) (defBody sGap) (defScope sGap) .none kVGap dcGap pmGap anGap cdGap ctGap), slGap⟩)
    (cGap : PySem.W.codeIn K cdGap "is_gap" = true)
    (kGap_ : PySem.W.keepIn K (.ref fGap) = true)
    (aSig : PySem.W.nsIn K mainGlobals "is_sign" = some (some (.ref fSig)))
    (lSig : K.lookup fSig = some ⟨ocSig, odSig, .func (PySem.W.fnOf "is_sign" "is_sign" (defArgs sSign) (defBody sSign) (defScope sSign) .none kVSig dcSig pmSig anSig cdSig ctSig), slSig⟩)
    (cSig : PySem.W.codeIn K cdSig "is_sign" = true)
    (kSig_ : PySem.W.keepIn K (.ref fSig) = true)
    (aTex : PySem.W.nsIn K mainGlobals "text_of" = some (some (.ref fTex)))
    (lTex : K.lookup fTex = some ⟨ocTex, odTex, .func (PySem.W.fnOf "text_of" "text_of" (defArgs sText) (defBody sText) (defScope sText) .none kVTex dcTex pmTex anTex cdTex ctTex), slTex⟩)
    (cTex : PySem.W.codeIn K cdTex "text_of" = true)
    (kTex_ : PySem.W.keepIn K (.ref fTex) = true)
    (aPts : PySem.W.nsIn K mainGlobals "points_of" = some (some (.ref fPts)))
    (lPts : K.lookup fPts = some ⟨ocPts, odPts, .func (PySem.W.fnOf "points_of" "points_of" (defArgs sPts) (defBody sPts) (defScope sPts) .none kVPts dcPts pmPts anPts cdPts ctPts), slPts⟩)
    (cPts : PySem.W.codeIn K cdPts "points_of" = true)
    (kPts_ : PySem.W.keepIn K (.ref fPts) = true)
    (aDee : PySem.W.nsIn K mainGlobals "deep_of" = some (some (.ref fDee)))
    (lDee : K.lookup fDee = some ⟨ocDee, odDee, .func (PySem.W.fnOf "deep_of" "deep_of" (defArgs sDeep) (defBody sDeep) (defScope sDeep) .none kVDee dcDee pmDee anDee cdDee ctDee), slDee⟩)
    (cDee : PySem.W.codeIn K cdDee "deep_of" = true)
    (kDee_ : PySem.W.keepIn K (.ref fDee) = true)
    (aWid : PySem.W.nsIn K mainGlobals "widest_of" = some (some (.ref fWid)))
    (lWid : K.lookup fWid = some ⟨ocWid, odWid, .func (PySem.W.fnOf "widest_of" "widest_of" (defArgs sWide) (defBody sWide) (defScope sWide) .none kVWid dcWid pmWid anWid cdWid ctWid), slWid⟩)
    (cWid : PySem.W.codeIn K cdWid "widest_of" = true)
    (kWid_ : PySem.W.keepIn K (.ref fWid) = true)
    (aBey : PySem.W.nsIn K mainGlobals "is_beyond" = some (some (.ref fBey)))
    (lBey : K.lookup fBey = some ⟨ocBey, odBey, .func (PySem.W.fnOf "is_beyond" "is_beyond" (defArgs sBeyond) (defBody sBeyond) (defScope sBeyond) .none kVBey dcBey pmBey anBey cdBey ctBey), slBey⟩)
    (cBey : PySem.W.codeIn K cdBey "is_beyond" = true)
    (kBey_ : PySem.W.keepIn K (.ref fBey) = true)
    (aHPa : PySem.W.nsIn K mainGlobals "has_parts" = some (some (.ref fHPa)))
    (lHPa : K.lookup fHPa = some ⟨ocHPa, odHPa, .func (PySem.W.fnOf "has_parts" "has_parts" (defArgs sHasParts) (defBody sHasParts) (defScope sHasParts) .none kVHPa dcHPa pmHPa anHPa cdHPa ctHPa), slHPa⟩)
    (cHPa : PySem.W.codeIn K cdHPa "has_parts" = true)
    (kHPa_ : PySem.W.keepIn K (.ref fHPa) = true)
    (aDpt : PySem.W.nsIn K mainGlobals "draft_points" = some (some (.ref fDpt)))
    (lDpt : K.lookup fDpt = some ⟨ocDpt, odDpt, .func (PySem.W.fnOf "draft_points" "draft_points" (defArgs sDp) (defBody sDp) (defScope sDp) .none kVDpt dcDpt pmDpt anDpt cdDpt ctDpt), slDpt⟩)
    (cDpt : PySem.W.codeIn K cdDpt "draft_points" = true)
    (kDpt_ : PySem.W.keepIn K (.ref fDpt) = true)
    (aMad : PySem.W.nsIn K mainGlobals "made" = some (some (.ref fMad)))
    (lMad : K.lookup fMad = some ⟨ocMad, odMad, .func (PySem.W.fnOf "made" "made" (defArgs sMade) (defBody sMade) (defScope sMade) .none kVMad dcMad pmMad anMad cdMad ctMad), slMad⟩)
    (cMad : PySem.W.codeIn K cdMad "made" = true)
    (kMad_ : PySem.W.keepIn K (.ref fMad) = true)
    (aOpe : PySem.W.nsIn K mainGlobals "opened" = some (some (.ref fOpe)))
    (lOpe : K.lookup fOpe = some ⟨ocOpe, odOpe, .func (PySem.W.fnOf "opened" "opened" (defArgs sOpened) (defBody sOpened) (defScope sOpened) .none kVOpe dcOpe pmOpe anOpe cdOpe ctOpe), slOpe⟩)
    (cOpe : PySem.W.codeIn K cdOpe "opened" = true)
    (kOpe_ : PySem.W.keepIn K (.ref fOpe) = true)
    (aAne : PySem.W.nsIn K mainGlobals "laid_anew" = some (some (.ref fAne)))
    (lAne : K.lookup fAne = some ⟨ocAne, odAne, .func (PySem.W.fnOf "laid_anew" "laid_anew" (defArgs sAnew) (defBody sAnew) (defScope sAnew) .none kVAne dcAne pmAne anAne cdAne ctAne), slAne⟩)
    (cAne : PySem.W.codeIn K cdAne "laid_anew" = true)
    (kAne_ : PySem.W.keepIn K (.ref fAne) = true)
    (aOrn : PySem.W.nsIn K mainGlobals "laid_or_none" = some (some (.ref fOrn)))
    (lOrn : K.lookup fOrn = some ⟨ocOrn, odOrn, .func (PySem.W.fnOf "laid_or_none" "laid_or_none" (defArgs sOrNone) (defBody sOrNone) (defScope sOrNone) .none kVOrn dcOrn pmOrn anOrn cdOrn ctOrn), slOrn⟩)
    (cOrn : PySem.W.codeIn K cdOrn "laid_or_none" = true)
    (kOrn_ : PySem.W.keepIn K (.ref fOrn) = true)
    (aLad : PySem.W.nsIn K mainGlobals "laid" = some (some (.ref fLad)))
    (lLad : K.lookup fLad = some ⟨ocLad, odLad, .func (PySem.W.fnOf "laid" "laid" (defArgs sLaid) (defBody sLaid) (defScope sLaid) .none kVLad dcLad pmLad anLad cdLad ctLad), slLad⟩)
    (cLad : PySem.W.codeIn K cdLad "laid" = true)
    (kLad_ : PySem.W.keepIn K (.ref fLad) = true)
    (aNei : PySem.W.nsIn K mainGlobals "neighbours" = some (some (.ref fNei)))
    (lNei : K.lookup fNei = some ⟨ocNei, odNei, .func (PySem.W.fnOf "neighbours" "neighbours" (defArgs sNb) (defBody sNb) (defScope sNb) .none kVNei dcNei pmNei anNei cdNei ctNei), slNei⟩)
    (cNei : PySem.W.codeIn K cdNei "neighbours" = true)
    (kNei_ : PySem.W.keepIn K (.ref fNei) = true)
    (aSpl : PySem.W.nsIn K mainGlobals "splits" = some (some (.ref fSpl)))
    (lSpl : K.lookup fSpl = some ⟨ocSpl, odSpl, .func (PySem.W.fnOf "splits" "splits" (defArgs sSplits) (defBody sSplits) (defScope sSplits) .none kVSpl dcSpl pmSpl anSpl cdSpl ctSpl), slSpl⟩)
    (cSpl : PySem.W.codeIn K cdSpl "splits" = true)
    (kSpl_ : PySem.W.keepIn K (.ref fSpl) = true)
    (aGat : PySem.W.nsIn K mainGlobals "gatherings" = some (some (.ref fGat)))
    (lGat : K.lookup fGat = some ⟨ocGat, odGat, .func (PySem.W.fnOf "gatherings" "gatherings" (defArgs sGath) (defBody sGath) (defScope sGath) .none kVGat dcGat pmGat anGat cdGat ctGat), slGat⟩)
    (cGat : PySem.W.codeIn K cdGat "gatherings" = true)
    (kGat_ : PySem.W.keepIn K (.ref fGat) = true)
    (aOwn : PySem.W.nsIn K mainGlobals "own_spots" = some (some (.ref fOwn)))
    (lOwn : K.lookup fOwn = some ⟨ocOwn, odOwn, .func (PySem.W.fnOf "own_spots" "own_spots" (defArgs sOwn) (defBody sOwn) (defScope sOwn) .none kVOwn dcOwn pmOwn anOwn cdOwn ctOwn), slOwn⟩)
    (cOwn : PySem.W.codeIn K cdOwn "own_spots" = true)
    (kOwn_ : PySem.W.keepIn K (.ref fOwn) = true)
    (aSos : PySem.W.nsIn K mainGlobals "spots_of" = some (some (.ref fSos)))
    (lSos : K.lookup fSos = some ⟨ocSos, odSos, .func (PySem.W.fnOf "spots_of" "spots_of" (defArgs sSo) (defBody sSo) (defScope sSo) .none kVSos dcSos pmSos anSos cdSos ctSos), slSos⟩)
    (cSos : PySem.W.codeIn K cdSos "spots_of" = true)
    (kSos_ : PySem.W.keepIn K (.ref fSos) = true)
    (aByt : PySem.W.nsIn K mainGlobals "by_text" = some (some (.ref fByt)))
    (lByt : K.lookup fByt = some ⟨ocByt, odByt, .func (PySem.W.fnOf "by_text" "by_text" (defArgs sBt) (defBody sBt) (defScope sBt) .none kVByt dcByt pmByt anByt cdByt ctByt), slByt⟩)
    (cByt : PySem.W.codeIn K cdByt "by_text" = true)
    (kByt_ : PySem.W.keepIn K (.ref fByt) = true)
    (aSee : PySem.W.nsIn K mainGlobals "seen" = some (some (.ref fSee)))
    (lSee : K.lookup fSee = some ⟨ocSee, odSee, .func (PySem.W.fnOf "seen" "seen" (defArgs sSeen) (defBody sSeen) (defScope sSeen) .none kVSee dcSee pmSee anSee cdSee ctSee), slSee⟩)
    (cSee : PySem.W.codeIn K cdSee "seen" = true)
    (kSee_ : PySem.W.keepIn K (.ref fSee) = true)
    (aBeg : PySem.W.nsIn K mainGlobals "_law_begun" = some (some (.ref fBeg)))
    (lBeg : K.lookup fBeg = some ⟨ocBeg, odBeg, .func (PySem.W.fnOf "_law_begun" "_law_begun" (defArgs sBegun) (defBody sBegun) (defScope sBegun) .none kVBeg dcBeg pmBeg anBeg cdBeg ctBeg), slBeg⟩)
    (cBeg : PySem.W.codeIn K cdBeg "_law_begun" = true)
    (kBeg_ : PySem.W.keepIn K (.ref fBeg) = true)
    (aMix : PySem.W.nsIn K mainGlobals "_law_mixed" = some (some (.ref fMix)))
    (lMix : K.lookup fMix = some ⟨ocMix, odMix, .func (PySem.W.fnOf "_law_mixed" "_law_mixed" (defArgs sMixed) (defBody sMixed) (defScope sMixed) .none kVMix dcMix pmMix anMix cdMix ctMix), slMix⟩)
    (cMix : PySem.W.codeIn K cdMix "_law_mixed" = true)
    (kMix_ : PySem.W.keepIn K (.ref fMix) = true)
    (aTak : PySem.W.nsIn K mainGlobals "_law_take" = some (some (.ref fTak)))
    (lTak : K.lookup fTak = some ⟨ocTak, odTak, .func (PySem.W.fnOf "_law_take" "_law_take" (defArgs sTake) (defBody sTake) (defScope sTake) .none kVTak dcTak pmTak anTak cdTak ctTak), slTak⟩)
    (cTak : PySem.W.codeIn K cdTak "_law_take" = true)
    (kTak_ : PySem.W.keepIn K (.ref fTak) = true)
    (aPic : PySem.W.nsIn K mainGlobals "_law_pick" = some (some (.ref fPic)))
    (lPic : K.lookup fPic = some ⟨ocPic, odPic, .func (PySem.W.fnOf "_law_pick" "_law_pick" (defArgs sPick') (defBody sPick') (defScope sPick') .none kVPic dcPic pmPic anPic cdPic ctPic), slPic⟩)
    (cPic : PySem.W.codeIn K cdPic "_law_pick" = true)
    (kPic_ : PySem.W.keepIn K (.ref fPic) = true)
    (aWor : PySem.W.nsIn K mainGlobals "_law_words" = some (some (.ref fWor)))
    (lWor : K.lookup fWor = some ⟨ocWor, odWor, .func (PySem.W.fnOf "_law_words" "_law_words" (defArgs sWords) (defBody sWords) (defScope sWords) .none kVWor dcWor pmWor anWor cdWor ctWor), slWor⟩)
    (cWor : PySem.W.codeIn K cdWor "_law_words" = true)
    (kWor_ : PySem.W.keepIn K (.ref fWor) = true)
    (aSgr : PySem.W.nsIn K mainGlobals "_law_sign_rows" = some (some (.ref fSgr)))
    (lSgr : K.lookup fSgr = some ⟨ocSgr, odSgr, .func (PySem.W.fnOf "_law_sign_rows" "_law_sign_rows" (defArgs sSgR) (defBody sSgR) (defScope sSgR) .none kVSgr dcSgr pmSgr anSgr cdSgr ctSgr), slSgr⟩)
    (cSgr : PySem.W.codeIn K cdSgr "_law_sign_rows" = true)
    (kSgr_ : PySem.W.keepIn K (.ref fSgr) = true)
    (aLKi : PySem.W.nsIn K mainGlobals "_law_kinds" = some (some (.ref fLKi)))
    (lLKi : K.lookup fLKi = some ⟨ocLKi, odLKi, .func (PySem.W.fnOf "_law_kinds" "_law_kinds" (defArgs sLKinds) (defBody sLKinds) (defScope sLKinds) .none kVLKi dcLKi pmLKi anLKi cdLKi ctLKi), slLKi⟩)
    (cLKi : PySem.W.codeIn K cdLKi "_law_kinds" = true)
    (kLKi_ : PySem.W.keepIn K (.ref fLKi) = true)
    (aLTe : PySem.W.nsIn K mainGlobals "_law_text" = some (some (.ref fLTe)))
    (lLTe : K.lookup fLTe = some ⟨ocLTe, odLTe, .func (PySem.W.fnOf "_law_text" "_law_text" (defArgs sLText) (defBody sLText) (defScope sLText) .none kVLTe dcLTe pmLTe anLTe cdLTe ctLTe), slLTe⟩)
    (cLTe : PySem.W.codeIn K cdLTe "_law_text" = true)
    (kLTe_ : PySem.W.keepIn K (.ref fLTe) = true)
    (aLPo : PySem.W.nsIn K mainGlobals "_law_points" = some (some (.ref fLPo)))
    (lLPo : K.lookup fLPo = some ⟨ocLPo, odLPo, .func (PySem.W.fnOf "_law_points" "_law_points" (defArgs sLPts) (defBody sLPts) (defScope sLPts) .none kVLPo dcLPo pmLPo anLPo cdLPo ctLPo), slLPo⟩)
    (cLPo : PySem.W.codeIn K cdLPo "_law_points" = true)
    (kLPo_ : PySem.W.keepIn K (.ref fLPo) = true)
    (aLDe : PySem.W.nsIn K mainGlobals "_law_deep" = some (some (.ref fLDe)))
    (lLDe : K.lookup fLDe = some ⟨ocLDe, odLDe, .func (PySem.W.fnOf "_law_deep" "_law_deep" (defArgs sLDeep) (defBody sLDeep) (defScope sLDeep) .none kVLDe dcLDe pmLDe anLDe cdLDe ctLDe), slLDe⟩)
    (cLDe : PySem.W.codeIn K cdLDe "_law_deep" = true)
    (kLDe_ : PySem.W.keepIn K (.ref fLDe) = true)
    (aLea : PySem.W.nsIn K mainGlobals "_law_leaf" = some (some (.ref fLea)))
    (lLea : K.lookup fLea = some ⟨ocLea, odLea, .func (PySem.W.fnOf "_law_leaf" "_law_leaf" (defArgs sLeaf) (defBody sLeaf) (defScope sLeaf) .none kVLea dcLea pmLea anLea cdLea ctLea), slLea⟩)
    (cLea : PySem.W.codeIn K cdLea "_law_leaf" = true)
    (kLea_ : PySem.W.keepIn K (.ref fLea) = true)
    (aTrm : PySem.W.nsIn K mainGlobals "_law_term" = some (some (.ref fTrm)))
    (lTrm : K.lookup fTrm = some ⟨ocTrm, odTrm, .func (PySem.W.fnOf "_law_term" "_law_term" (defArgs sLTerm) (defBody sLTerm) (defScope sLTerm) .none kVTrm dcTrm pmTrm anTrm cdTrm ctTrm), slTrm⟩)
    (cTrm : PySem.W.codeIn K cdTrm "_law_term" = true)
    (kTrm_ : PySem.W.keepIn K (.ref fTrm) = true)
    (aLoo : PySem.W.nsIn K mainGlobals "_law_loose" = some (some (.ref fLoo)))
    (lLoo : K.lookup fLoo = some ⟨ocLoo, odLoo, .func (PySem.W.fnOf "_law_loose" "_law_loose" (defArgs sLoose) (defBody sLoose) (defScope sLoose) .none kVLoo dcLoo pmLoo anLoo cdLoo ctLoo), slLoo⟩)
    (cLoo : PySem.W.codeIn K cdLoo "_law_loose" = true)
    (kLoo_ : PySem.W.keepIn K (.ref fLoo) = true)
    (aDft : PySem.W.nsIn K mainGlobals "_law_draft" = some (some (.ref fDft)))
    (lDft : K.lookup fDft = some ⟨ocDft, odDft, .func (PySem.W.fnOf "_law_draft" "_law_draft" (defArgs sDraftT) (defBody sDraftT) (defScope sDraftT) .none kVDft dcDft pmDft anDft cdDft ctDft), slDft⟩)
    (cDft : PySem.W.codeIn K cdDft "_law_draft" = true)
    (kDft_ : PySem.W.keepIn K (.ref fDft) = true)
    (aSub : PySem.W.nsIn K mainGlobals "_law_subsets" = some (some (.ref fSub)))
    (lSub : K.lookup fSub = some ⟨ocSub, odSub, .func (PySem.W.fnOf "_law_subsets" "_law_subsets" (defArgs sSubs) (defBody sSubs) (defScope sSubs) .none kVSub dcSub pmSub anSub cdSub ctSub), slSub⟩)
    (cSub : PySem.W.codeIn K cdSub "_law_subsets" = true)
    (kSub_ : PySem.W.keepIn K (.ref fSub) = true)
    (aPla : PySem.W.nsIn K mainGlobals "_law_own_places" = some (some (.ref fPla)))
    (lPla : K.lookup fPla = some ⟨ocPla, odPla, .func (PySem.W.fnOf "_law_own_places" "_law_own_places" (defArgs sPl) (defBody sPl) (defScope sPl) .none kVPla dcPla pmPla anPla cdPla ctPla), slPla⟩)
    (cPla : PySem.W.codeIn K cdPla "_law_own_places" = true)
    (kPla_ : PySem.W.keepIn K (.ref fPla) = true)
    (aAll : PySem.W.nsIn K mainGlobals "_law_all_seen" = some (some (.ref fAll)))
    (lAll : K.lookup fAll = some ⟨ocAll, odAll, .func (PySem.W.fnOf "_law_all_seen" "_law_all_seen" (defArgs sAll) (defBody sAll) (defScope sAll) .none kVAll dcAll pmAll anAll cdAll ctAll), slAll⟩)
    (cAll : PySem.W.codeIn K cdAll "_law_all_seen" = true)
    (kAll_ : PySem.W.keepIn K (.ref fAll) = true)
    (aRis : PySem.W.nsIn K mainGlobals "_law_rising" = some (some (.ref fRis)))
    (lRis : K.lookup fRis = some ⟨ocRis, odRis, .func (PySem.W.fnOf "_law_rising" "_law_rising" (defArgs sRise) (defBody sRise) (defScope sRise) .none kVRis dcRis pmRis anRis cdRis ctRis), slRis⟩)
    (cRis : PySem.W.codeIn K cdRis "_law_rising" = true)
    (kRis_ : PySem.W.keepIn K (.ref fRis) = true)
    (aWil : PySem.W.nsIn K mainGlobals "_law_wide" = some (some (.ref fWil)))
    (lWil : K.lookup fWil = some ⟨ocWil, odWil, .func (PySem.W.fnOf "_law_wide" "_law_wide" (defArgs sWideL) (defBody sWideL) (defScope sWideL) .none kVWil dcWil pmWil anWil cdWil ctWil), slWil⟩)
    (cWil : PySem.W.codeIn K cdWil "_law_wide" = true)
    (kWil_ : PySem.W.keepIn K (.ref fWil) = true)
    (aLai : PySem.W.nsIn K mainGlobals "_law_laid" = some (some (.ref fLai)))
    (lLai : K.lookup fLai = some ⟨ocLai, odLai, .func (PySem.W.fnOf "_law_laid" "_law_laid" (defArgs sLLaid) (defBody sLLaid) (defScope sLLaid) .none kVLai dcLai pmLai anLai (.ref kLai) ctLai), slLai⟩)
    (cLai : PySem.W.codeIn K (.ref kLai) "_law_laid" = true)
    (kLai_ : PySem.W.keepIn K (.ref fLai) = true)
    (aLaw : PySem.W.nsIn K mainGlobals "law" = some (some (.ref fLaw)))
    (lLaw : K.lookup fLaw = some ⟨ocLaw, odLaw, .func (PySem.W.fnOf "law" "law" (defArgs sLaw) (defBody sLaw) (defScope sLaw) .none kVLaw dcLaw pmLaw anLaw (.ref kLaw) ctLaw), slLaw⟩)
    (cLaw : PySem.W.codeIn K (.ref kLaw) "law" = true)
    (kLaw_ : PySem.W.keepIn K (.ref fLaw) = true)
    (amIn : PySem.W.findIn K (.ref C) "__init__" = some (some (.ref fmIn)))
    (imIn : PySem.W.isFn K (.ref fmIn) = true)
    (lmIn : K.lookup fmIn = some ⟨ocmIn, odmIn, .func (PySem.W.fnOf "__init__" "Signs.__init__" (defArgs sInit) (defBody sInit) (defScope sInit) .none kVmIn dcmIn pmmIn anmIn cdmIn ctmIn), slmIn⟩)
    (cmIn : PySem.W.codeIn K cdmIn "Signs.__init__" = true)
    (kmIn_ : PySem.W.keepIn K (.ref fmIn) = true)
    (amHa : PySem.W.findIn K (.ref C) "has" = some (some (.ref fmHa)))
    (imHa : PySem.W.isFn K (.ref fmHa) = true)
    (lmHa : K.lookup fmHa = some ⟨ocmHa, odmHa, .func (PySem.W.fnOf "has" "Signs.has" (defArgs sHas) (defBody sHas) (defScope sHas) .none kVmHa dcmHa pmmHa anmHa cdmHa ctmHa), slmHa⟩)
    (cmHa : PySem.W.codeIn K cdmHa "Signs.has" = true)
    (kmHa_ : PySem.W.keepIn K (.ref fmHa) = true)
    (amKi : PySem.W.findIn K (.ref C) "kind" = some (some (.ref fmKi)))
    (imKi : PySem.W.isFn K (.ref fmKi) = true)
    (lmKi : K.lookup fmKi = some ⟨ocmKi, odmKi, .func (PySem.W.fnOf "kind" "Signs.kind" (defArgs sKind) (defBody sKind) (defScope sKind) .none kVmKi dcmKi pmmKi anmKi cdmKi ctmKi), slmKi⟩)
    (cmKi : PySem.W.codeIn K cdmKi "Signs.kind" = true)
    (kmKi_ : PySem.W.keepIn K (.ref fmKi) = true)
    (amMa : PySem.W.findIn K (.ref C) "many" = some (some (.ref fmMa)))
    (imMa : PySem.W.isFn K (.ref fmMa) = true)
    (lmMa : K.lookup fmMa = some ⟨ocmMa, odmMa, .func (PySem.W.fnOf "many" "Signs.many" (defArgs sMany) (defBody sMany) (defScope sMany) .none kVmMa dcmMa pmmMa anmMa cdmMa ctmMa), slmMa⟩)
    (cmMa : PySem.W.codeIn K cdmMa "Signs.many" = true)
    (kmMa_ : PySem.W.keepIn K (.ref fmMa) = true)
    (xSM : PySem.W.nsIn K mainGlobals "SMALL" = some (some (.str abc tSM)))
    (xNL : PySem.W.nsIn K mainGlobals "NAME_LETTERS" = some (some (.int 8 tNL)))
    (xMS : PySem.W.nsIn K mainGlobals "MOST_SIGNS" = some (some (.int 24 tMS)))
    (xMP : PySem.W.nsIn K mainGlobals "MOST_PLAIN" = some (some (.int 4 tMP)))
    (xGR : PySem.W.nsIn K mainGlobals "GREAT" = some (some (.str bigs tGR)))
    (xGL : PySem.W.nsIn K mainGlobals "GAP_LETTERS" = some (some (.int 4 tGL)))
    (xPO : PySem.W.nsIn K mainGlobals "MOST_POINTS" = some (some (.int 80 tPO)))
    (xDE : PySem.W.nsIn K mainGlobals "MOST_DEEP" = some (some (.int 12 tDE)))
    (xPA : PySem.W.nsIn K mainGlobals "MOST_PARTS" = some (some (.int 8 tPA)))
    (z_isinstance : PySem.W.nsIn K mainGlobals "isinstance" = some none)
    (z_int : PySem.W.nsIn K mainGlobals "int" = some none)
    (z_bool : PySem.W.nsIn K mainGlobals "bool" = some none)
    (z_str : PySem.W.nsIn K mainGlobals "str" = some none)
    (z_list : PySem.W.nsIn K mainGlobals "list" = some none)
    (z_tuple : PySem.W.nsIn K mainGlobals "tuple" = some none)
    (z_len : PySem.W.nsIn K mainGlobals "len" = some none)
    (z_all : PySem.W.nsIn K mainGlobals "all" = some none)
    (z_range : PySem.W.nsIn K mainGlobals "range" = some none)
    (z_repr : PySem.W.nsIn K mainGlobals "repr" = some none)
    (z_dict : PySem.W.nsIn K mainGlobals "dict" = some none)
    (z_sum : PySem.W.nsIn K mainGlobals "sum" = some none)
    (z_max : PySem.W.nsIn K mainGlobals "max" = some none)
    (z_min : PySem.W.nsIn K mainGlobals "min" = some none)
    (z_sorted : PySem.W.nsIn K mainGlobals "sorted" = some none)
    (z_set : PySem.W.nsIn K mainGlobals "set" = some none)
    (z_enumerate : PySem.W.nsIn K mainGlobals "enumerate" = some none)
    (pg : PySem.W.plainGet K C Str.empty = true)
    (hd : PySem.W.hasDictIn K C = true)
    (po : PySem.W.plainOver K C = true)
    (sa : PySem.W.findIn K (.ref C) "__setattr__" = some (some (.builtin "object.__setattr__")))
    (nR : PySem.W.findIn K (.ref C) "_rows" = some none)
    (nT : PySem.W.findIn K (.ref C) "_table" = some none)
    (mkC : PySem.W.makesIn K C = true)
    (kpC : PySem.W.keepIn K (.ref C) = true)
    (xN : PySem.W.excIn K CN [.type "ValueError", .type "Exception", .type "BaseException", .type "object"] "ValueError.__new__" = true)
    (kN : PySem.W.keepIn K (.ref CN) = true)
    (sN : PySem.W.subIn K (.ref CN) (.type "BaseException") = some true)
    (tN : PySem.W.typeIn K (.ref CN) = some (.type "type"))
    (xT : PySem.W.excIn K CT [.type "ValueError", .type "Exception", .type "BaseException", .type "object"] "ValueError.__new__" = true)
    (kT : PySem.W.keepIn K (.ref CT) = true)
    (sT : PySem.W.subIn K (.ref CT) (.type "BaseException") = some true)
    (tT : PySem.W.typeIn K (.ref CT) = some (.type "type"))
    (mL : PL ∈ ts)
    (oL : K.lookup PL = none)
    (hdL : PySem.W.codeHdIn K kLai PL = true)
    : LawG l w K 78 63 "_law_script" mg fa h := by
  have e := hfa.symm.trans (PySem.W.mg_of X G aLaw)
  cases e
  have FNum := fun_mk (st := sNum) lNum cNum kNum_
  have bNum := FNum.binds (ps := ["thing"]) fun _ _ _ _ _ _ us hl => match us, hl with | [_], _ => rfl
  have gNum_ := PySem.W.mg_of X G aNum
  have FLst := fun_mk (st := sList) lLst cLst kLst_
  have bLst := FLst.binds (ps := ["thing"]) fun _ _ _ _ _ _ us hl => match us, hl with | [_], _ => rfl
  have gLst_ := PySem.W.mg_of X G aLst
  have FSma := fun_mk (st := sSmall) lSma cSma kSma_
  have bSma := FSma.binds (ps := ["text"]) fun _ _ _ _ _ _ us hl => match us, hl with | [_], _ => rfl
  have gSma_ := PySem.W.mg_of X G aSma
  have FNam := fun_mk (st := sName) lNam cNam kNam_
  have bNam := FNam.binds (ps := ["thing"]) fun _ _ _ _ _ _ us hl => match us, hl with | [_], _ => rfl
  have gNam_ := PySem.W.mg_of X G aNam
  have FGap := fun_mk (st := sGap) lGap cGap kGap_
  have bGap := FGap.binds (ps := ["thing"]) fun _ _ _ _ _ _ us hl => match us, hl with | [_], _ => rfl
  have gGap_ := PySem.W.mg_of X G aGap
  have FSig := fun_mk (st := sSign) lSig cSig kSig_
  have bSig := FSig.binds (ps := ["thing"]) fun _ _ _ _ _ _ us hl => match us, hl with | [_], _ => rfl
  have gSig_ := PySem.W.mg_of X G aSig
  have FTex := fun_mk (st := sText) lTex cTex kTex_
  have bTex := FTex.binds (ps := ["term"]) fun _ _ _ _ _ _ us hl => match us, hl with | [_], _ => rfl
  have gTex_ := PySem.W.mg_of X G aTex
  have FPts := fun_mk (st := sPts) lPts cPts kPts_
  have bPts := FPts.binds (ps := ["term"]) fun _ _ _ _ _ _ us hl => match us, hl with | [_], _ => rfl
  have gPts_ := PySem.W.mg_of X G aPts
  have FDee := fun_mk (st := sDeep) lDee cDee kDee_
  have bDee := FDee.binds (ps := ["term"]) fun _ _ _ _ _ _ us hl => match us, hl with | [_], _ => rfl
  have gDee_ := PySem.W.mg_of X G aDee
  have FWid := fun_mk (st := sWide) lWid cWid kWid_
  have bWid := FWid.binds (ps := ["term"]) fun _ _ _ _ _ _ us hl => match us, hl with | [_], _ => rfl
  have gWid_ := PySem.W.mg_of X G aWid
  have FBey := fun_mk (st := sBeyond) lBey cBey kBey_
  have bBey := FBey.binds (ps := ["term"]) fun _ _ _ _ _ _ us hl => match us, hl with | [_], _ => rfl
  have gBey_ := PySem.W.mg_of X G aBey
  have FHPa := fun_mk (st := sHasParts) lHPa cHPa kHPa_
  have bHPa := FHPa.binds (ps := ["signs", "name", "count"]) fun _ _ _ _ _ _ us hl => match us, hl with | [_, _, _], _ => rfl
  have gHPa_ := PySem.W.mg_of X G aHPa
  have FDpt := fun_mk (st := sDp) lDpt cDpt kDpt_
  have bDpt := FDpt.binds (ps := ["signs", "thing", "levels", "room"]) fun _ _ _ _ _ _ us hl => match us, hl with | [_, _, _, _], _ => rfl
  have gDpt_ := PySem.W.mg_of X G aDpt
  have FMad := fun_mk (st := sMade) lMad cMad kMad_
  have bMad := FMad.binds (ps := ["signs", "name", "parts"]) fun _ _ _ _ _ _ us hl => match us, hl with | [_, _, _], _ => rfl
  have gMad_ := PySem.W.mg_of X G aMad
  have FOpe := fun_mk (st := sOpened) lOpe cOpe kOpe_
  have bOpe := FOpe.binds (ps := ["name", "parts"]) fun _ _ _ _ _ _ us hl => match us, hl with | [_, _], _ => rfl
  have gOpe_ := PySem.W.mg_of X G aOpe
  have FAne := fun_mk (st := sAnew) lAne cAne kAne_
  have bAne := FAne.binds (ps := ["signs", "draft"]) fun _ _ _ _ _ _ us hl => match us, hl with | [_, _], _ => rfl
  have gAne_ := PySem.W.mg_of X G aAne
  have FOrn := fun_mk (st := sOrNone) lOrn cOrn kOrn_
  have bOrn := FOrn.binds (ps := ["signs", "thing"]) fun _ _ _ _ _ _ us hl => match us, hl with | [_, _], _ => rfl
  have gOrn_ := PySem.W.mg_of X G aOrn
  have FLad := fun_mk (st := sLaid) lLad cLad kLad_
  have bLad := FLad.binds (ps := ["signs", "draft"]) fun _ _ _ _ _ _ us hl => match us, hl with | [_, _], _ => rfl
  have gLad_ := PySem.W.mg_of X G aLad
  have FNei := fun_mk (st := sNb) lNei cNei kNei_
  have bNei := FNei.binds (ps := ["term"]) fun _ _ _ _ _ _ us hl => match us, hl with | [_], _ => rfl
  have gNei_ := PySem.W.mg_of X G aNei
  have FSpl := fun_mk (st := sSplits) lSpl cSpl kSpl_
  have bSpl := FSpl.binds (ps := ["parts"]) fun _ _ _ _ _ _ us hl => match us, hl with | [_], _ => rfl
  have gSpl_ := PySem.W.mg_of X G aSpl
  have FGat := fun_mk (st := sGath) lGat cGat kGat_
  have bGat := FGat.binds (ps := ["term"]) fun _ _ _ _ _ _ us hl => match us, hl with | [_], _ => rfl
  have gGat_ := PySem.W.mg_of X G aGat
  have FOwn := fun_mk (st := sOwn) lOwn cOwn kOwn_
  have bOwn := FOwn.binds (ps := ["signs", "term"]) fun _ _ _ _ _ _ us hl => match us, hl with | [_, _], _ => rfl
  have gOwn_ := PySem.W.mg_of X G aOwn
  have FSos := fun_mk (st := sSo) lSos cSos kSos_
  have bSos := FSos.binds (ps := ["signs", "term"]) fun _ _ _ _ _ _ us hl => match us, hl with | [_, _], _ => rfl
  have gSos_ := PySem.W.mg_of X G aSos
  have FByt := fun_mk (st := sBt) lByt cByt kByt_
  have bByt := FByt.binds (ps := ["spots"]) fun _ _ _ _ _ _ us hl => match us, hl with | [_], _ => rfl
  have gByt_ := PySem.W.mg_of X G aByt
  have FSee := fun_mk (st := sSeen) lSee cSee kSee_
  have bSee := FSee.binds (ps := ["signs", "term"]) fun _ _ _ _ _ _ us hl => match us, hl with | [_, _], _ => rfl
  have gSee_ := PySem.W.mg_of X G aSee
  have FBeg := fun_mk (st := sBegun) lBeg cBeg kBeg_
  have bBeg := FBeg.binds (ps := ["_law_script"]) fun _ _ _ _ _ _ us hl => match us, hl with | [_], _ => rfl
  have gBeg_ := PySem.W.mg_of X G aBeg
  have FMix := fun_mk (st := sMixed) lMix cMix kMix_
  have bMix := FMix.binds (ps := ["_law_state"]) fun _ _ _ _ _ _ us hl => match us, hl with | [_], _ => rfl
  have gMix_ := PySem.W.mg_of X G aMix
  have FTak := fun_mk (st := sTake) lTak cTak kTak_
  have bTak := FTak.binds (ps := ["_law_state", "_law_size"]) fun _ _ _ _ _ _ us hl => match us, hl with | [_, _], _ => rfl
  have gTak_ := PySem.W.mg_of X G aTak
  have FPic := fun_mk (st := sPick') lPic cPic kPic_
  have bPic := FPic.binds (ps := ["_law_state", "_law_some"]) fun _ _ _ _ _ _ us hl => match us, hl with | [_, _], _ => rfl
  have gPic_ := PySem.W.mg_of X G aPic
  have FWor := fun_mk (st := sWords) lWor cWor kWor_
  have bWor := FWor.binds (ps := ["_law_state", "_law_size"]) fun _ _ _ _ _ _ us hl => match us, hl with | [_, _], _ => rfl
  have gWor_ := PySem.W.mg_of X G aWor
  have FSgr := fun_mk (st := sSgR) lSgr cSgr kSgr_
  have bSgr := FSgr.binds (ps := ["_law_state"]) fun _ _ _ _ _ _ us hl => match us, hl with | [_], _ => rfl
  have gSgr_ := PySem.W.mg_of X G aSgr
  have FLKi := fun_mk (st := sLKinds) lLKi cLKi kLKi_
  have bLKi := FLKi.binds (ps := ["_law_rows"]) fun _ _ _ _ _ _ us hl => match us, hl with | [_], _ => rfl
  have gLKi_ := PySem.W.mg_of X G aLKi
  have FLTe := fun_mk (st := sLText) lLTe cLTe kLTe_
  have bLTe := FLTe.binds (ps := ["_law_tree"]) fun _ _ _ _ _ _ us hl => match us, hl with | [_], _ => rfl
  have gLTe_ := PySem.W.mg_of X G aLTe
  have FLPo := fun_mk (st := sLPts) lLPo cLPo kLPo_
  have bLPo := FLPo.binds (ps := ["_law_tree"]) fun _ _ _ _ _ _ us hl => match us, hl with | [_], _ => rfl
  have gLPo_ := PySem.W.mg_of X G aLPo
  have FLDe := fun_mk (st := sLDeep) lLDe cLDe kLDe_
  have bLDe := FLDe.binds (ps := ["_law_tree"]) fun _ _ _ _ _ _ us hl => match us, hl with | [_], _ => rfl
  have gLDe_ := PySem.W.mg_of X G aLDe
  have FLea := fun_mk (st := sLeaf) lLea cLea kLea_
  have bLea := FLea.binds (ps := ["_law_state", "_law_rows", "_law_blanks"]) fun _ _ _ _ _ _ us hl => match us, hl with | [_, _, _], _ => rfl
  have gLea_ := PySem.W.mg_of X G aLea
  have FTrm := fun_mk (st := sLTerm) lTrm cTrm kTrm_
  have bTrm := FTrm.binds (ps := ["_law_state", "_law_rows", "_law_blanks", "_law_room", "_law_height"]) fun _ _ _ _ _ _ us hl => match us, hl with | [_, _, _, _, _], _ => rfl
  have gTrm_ := PySem.W.mg_of X G aTrm
  have FLoo := fun_mk (st := sLoose) lLoo cLoo kLoo_
  have bLoo := FLoo.binds (ps := ["_law_state", "_law_kinds_here", "_law_tree"]) fun _ _ _ _ _ _ us hl => match us, hl with | [_, _, _], _ => rfl
  have gLoo_ := PySem.W.mg_of X G aLoo
  have FDft := fun_mk (st := sDraftT) lDft cDft kDft_
  have bDft := FDft.binds (ps := ["_law_state", "_law_kinds_here", "_law_tree"]) fun _ _ _ _ _ _ us hl => match us, hl with | [_, _, _], _ => rfl
  have gDft_ := PySem.W.mg_of X G aDft
  have FSub := fun_mk (st := sSubs) lSub cSub kSub_
  have bSub := FSub.binds (ps := ["_law_count"]) fun _ _ _ _ _ _ us hl => match us, hl with | [_], _ => rfl
  have gSub_ := PySem.W.mg_of X G aSub
  have FPla := fun_mk (st := sPl) lPla cPla kPla_
  have bPla := FPla.binds (ps := ["_law_kinds_here", "_law_tree"]) fun _ _ _ _ _ _ us hl => match us, hl with | [_, _], _ => rfl
  have gPla_ := PySem.W.mg_of X G aPla
  have FAll := fun_mk (st := sAll) lAll cAll kAll_
  have bAll := FAll.binds (ps := ["_law_kinds_here", "_law_tree"]) fun _ _ _ _ _ _ us hl => match us, hl with | [_, _], _ => rfl
  have gAll_ := PySem.W.mg_of X G aAll
  have FRis := fun_mk (st := sRise) lRis cRis kRis_
  have bRis := FRis.binds (ps := ["_law_terms"]) fun _ _ _ _ _ _ us hl => match us, hl with | [_], _ => rfl
  have gRis_ := PySem.W.mg_of X G aRis
  have FWil := fun_mk (st := sWideL) lWil cWil kWil_
  have bWil := FWil.binds (ps := ["_law_state", "_law_rows"]) fun _ _ _ _ _ _ us hl => match us, hl with | [_, _], _ => rfl
  have gWil_ := PySem.W.mg_of X G aWil
  have FLai : FunC K "_law_laid" sLLaid fLai _ kLai := ⟨⟨ocLai, odLai, kVLai, dcLai, pmLai, anLai, ctLai, slLai, rfl, lLai, cLai⟩, kLai_⟩
  have FLai' := fun_mk (st := sLLaid) lLai cLai kLai_
  have bLai := FLai'.binds (ps := ["_law_kinds_here", "_law_draft_here"]) fun _ _ _ _ _ _ us hl => match us, hl with | [_, _], _ => rfl
  have gLai_ := PySem.W.mg_of X G aLai
  have FLaw : FunC K "law" sLaw fa _ kLaw := ⟨⟨ocLaw, odLaw, kVLaw, dcLaw, pmLaw, anLaw, ctLaw, slLaw, rfl, lLaw, cLaw⟩, kLaw_⟩
  have FLaw' := fun_mk (st := sLaw) lLaw cLaw kLaw_
  have bLaw := FLaw'.binds (ps := ["_law_script"]) fun _ _ _ _ _ _ us hl => match us, hl with | [_], _ => rfl
  have gLaw_ := PySem.W.mg_of X G aLaw
  have FmIn := fun_mk (st := sInit) lmIn cmIn kmIn_
  have bmIn := FmIn.binds (ps := ["self", "rows"]) fun _ _ _ _ _ _ us hl => match us, hl with | [_, _], _ => rfl
  have FmHa := fun_mk (st := sHas) lmHa cmHa kmHa_
  have bmHa := FmHa.binds (ps := ["self", "name"]) fun _ _ _ _ _ _ us hl => match us, hl with | [_, _], _ => rfl
  have FmKi := fun_mk (st := sKind) lmKi cmKi kmKi_
  have bmKi := FmKi.binds (ps := ["self", "name"]) fun _ _ _ _ _ _ us hl => match us, hl with | [_, _], _ => rfl
  have FmMa := fun_mk (st := sMany) lmMa cmMa kmMa_
  have bmMa := FmMa.binds (ps := ["self", "name"]) fun _ _ _ _ _ _ us hl => match us, hl with | [_, _], _ => rfl
  have hC := PySem.W.mg_of X G gC
  have hCN := PySem.W.mg_of X G gCN
  have hCT := PySem.W.mg_of X G gCT
  have w_isinstance := PySem.W.mg_none_of X G z_isinstance
  have w_int := PySem.W.mg_none_of X G z_int
  have w_bool := PySem.W.mg_none_of X G z_bool
  have w_str := PySem.W.mg_none_of X G z_str
  have w_list := PySem.W.mg_none_of X G z_list
  have w_tuple := PySem.W.mg_none_of X G z_tuple
  have w_len := PySem.W.mg_none_of X G z_len
  have w_all := PySem.W.mg_none_of X G z_all
  have w_range := PySem.W.mg_none_of X G z_range
  have w_repr := PySem.W.mg_none_of X G z_repr
  have w_dict := PySem.W.mg_none_of X G z_dict
  have w_sum := PySem.W.mg_none_of X G z_sum
  have w_max := PySem.W.mg_none_of X G z_max
  have w_min := PySem.W.mg_none_of X G z_min
  have w_sorted := PySem.W.mg_none_of X G z_sorted
  have w_set := PySem.W.mg_none_of X G z_set
  have w_enumerate := PySem.W.mg_none_of X G z_enumerate
  have B : Cs mg := ⟨⟨_, PySem.W.mg_of X G xSM⟩, ⟨_, PySem.W.mg_of X G xNL⟩, ⟨_, PySem.W.mg_of X G xMS⟩, ⟨_, PySem.W.mg_of X G xMP⟩, w_isinstance, w_int, w_bool, w_str, w_list, w_tuple, w_len, w_all, w_range, w_repr, w_dict⟩
  have T : Ct mg := ⟨B, ⟨_, PySem.W.mg_of X G xGR⟩, ⟨_, PySem.W.mg_of X G xGL⟩, ⟨_, PySem.W.mg_of X G xPO⟩, ⟨_, PySem.W.mg_of X G xDE⟩, ⟨_, PySem.W.mg_of X G xPA⟩, w_sum, w_max, w_min, w_sorted⟩
  have Tx : Txt mg := ⟨w_list⟩
  have Bx : Bt mg := ⟨w_list, w_len, w_range⟩
  have Gc : SgC K C := ⟨⟨pg, hd, po, sa⟩, nR, nT⟩
  have XN : XC K mg "NoSigns" CN := ⟨hCN, xN, kN, sN, tN⟩
  have MK : Mk K C fmIn := ⟨mkC, amIn, imIn, kpC⟩
  have XT : XC K mg "NoTerm" CT := ⟨hCT, xT, kT, sT, tT⟩
  have kbF : KBn K _ ["signs", "term"] 0 ["term", "signs"] (fun _ ws => ws.reverse) (fun _ zs => zs.reverse) := kbn2 (fd := PySem.W.fnOf "seen" "seen" (defArgs sSeen) (defBody sSeen) (defScope sSeen) .none kVSee dcSee pmSee anSee cdSee ctSee) fun u v => rfl
  refine ⟨PySem.W.fnOf "law" "law" (defArgs sLaw) (defBody sLaw) (defScope sLaw) .none kVLaw dcLaw pmLaw anLaw (.ref kLaw) ctLaw, [(kLai, PL)], spLaw K [(PL, qLaid)], fun p hp => ?_, fun p hp => ?_, fun p hp => ?_, fun s u => .of_eq rfl, fun H a ns hl hH hS => ⟨a, ns, rfl, hS, hl, tabs_nil (cs := [(kLai, PL)]) (fun p hp => ?_) hH, fun _ => rfl⟩, fun base _ _ TBs => ?_⟩
  · simp only [List.mem_cons, List.not_mem_nil, or_false] at hp
    rcases hp with rfl
    exact hT _ mL
  · simp only [List.mem_cons, List.not_mem_nil, or_false] at hp
    rcases hp with rfl
    exact oL
  · simp only [List.mem_cons, List.not_mem_nil, or_false] at hp
    rcases hp with rfl
    exact PySem.W.codeHd_of_K X hdL
  · simp only [List.mem_cons, List.not_mem_nil, or_false] at hp
    rcases hp with rfl
    exact ⟨_, List.mem_cons_self, rfl⟩
  · have DTk := dfk (P := l.prog) (w := w) (base := base) (ok_take FTak FMix bMix gMix_ kMix_ Tx) gTak_ kTak_ bTak
    have DPi := dfk (ok_pick FPic DTk Bx) gPic_ kPic_ bPic
    have DWo := dfk (ok_words FWor DTk Bx) gWor_ kWor_ bWor
    have DBe := dfk (P := l.prog) (w := w) (base := base) (ok_begun FBeg Tx) gBeg_ kBeg_ bBeg
    have Dnum := dfk (P := l.prog) (w := w) (base := base) (ok_num FNum B) gNum_ kNum_ bNum
    have Dlst := dfk (P := l.prog) (w := w) (base := base) (ok_list FLst B) gLst_ kLst_ bLst
    have Dsma := dfk (P := l.prog) (w := w) (base := base) (ok_small FSma B) gSma_ kSma_ bSma
    have Dnam := dfk (ok_name FNam Dsma B) gNam_ kNam_ bNam
    have Dsig := dfk (ok_sign FSig Dnam Dnum B) gSig_ kSig_ bSig
    have OI := ok_init FmIn Dlst Dsig B XN Gc
    have Dtex := df_chain (P := l.prog) (w := w) (base := base) (fun n => n) (fun n => sp1 K n fun g => .str (text g)) gTex_ kTex_ bTex (sp1_zero fun vs H Q E => no_dp0 vs H Q E) (fun n IH => ok_text FTex IH T)
    have Dpts := df_chain (P := l.prog) (w := w) (base := base) (fun n => n) (fun n => sp1 K n fun g => .int (points g)) gPts_ kPts_ bPts (sp1_zero fun vs H Q E => no_dp0 vs H Q E) (fun n IH => ok_pts FPts IH T)
    have Ddee := df_chain (P := l.prog) (w := w) (base := base) (fun n => n) (fun n => sp1 K n fun g => .int (deep g)) gDee_ kDee_ bDee (sp1_zero fun vs H Q E => no_dp0 vs H Q E) (fun n IH => ok_deep FDee IH T)
    have Dwid := df_chain (P := l.prog) (w := w) (base := base) (fun n => n) (fun n => sp1 K n fun g => .int (wide g)) gWid_ kWid_ bWid (sp1_zero fun vs H Q E => no_dp0 vs H Q E) (fun n IH => ok_wide FWid IH T)
    have Dbey := dfk (ok_beyond FBey (Dpts 13) (Ddee 13) (Dwid 13) T) gBey_ kBey_ bBey
    have MH : Mt l.prog w K mg base C8.CX0 C "has" 1 ["self", "name"] (spHasG K C) := ⟨_, _, ok_hasG FmHa T Gc, ⟨amHa, imHa, kmHa_⟩, bmHa⟩
    have MKi : Mt l.prog w K mg base C8.CX0 C "kind" 2 ["self", "name"] (spKindG K C) := ⟨_, _, ok_kindG FmKi MH Gc, ⟨amKi, imKi, kmKi_⟩, bmKi⟩
    have MMa : Mt l.prog w K mg base C8.CX0 C "many" 2 ["self", "name"] (spManyG K C) := ⟨_, _, ok_manyG FmMa MH Gc, ⟨amMa, imMa, kmMa_⟩, bmMa⟩
    have Dgap := dfk (ok_gap FGap Dsma T) gGap_ kGap_ bGap
    have Dhpa := dfk (ok_hasParts FHPa MH MKi MMa T Gc) gHPa_ kHPa_ bHPa
    have Ddpt := df_chain (P := l.prog) (w := w) (base := base) (fun n => n + 4) (fun n => spDr K C n) gDpt_ kDpt_ bDpt (ok_dp (n := 0) (m := 3) (spI := fun _ _ _ _ => False) FDpt (dfk (sp1_zero fun _ _ _ _ z => z) gDpt_ kDpt_ bDpt) (fun l hl => absurd hl (by omega)) Dgap Dhpa T (Nat.le_refl _)) (fun n IH => ok_dp FDpt IH (fun l hl vs H Q E ⟨p, L, v, g, r, e, h1, h2, h3, h4, h5, h6⟩ => ⟨p, L, v, g, l, r, e, h1, h2, h3, h4, h5, by omega, h6⟩) Dgap Dhpa T (by omega))
    have Dope := dfk (P := l.prog) (w := w) (base := base) (ok_opened FOpe T) gOpe_ kOpe_ bOpe
    have Dbey3 := dfk (ok_beyond FBey (Dpts 30) (Ddee 30) (Dwid 30) T) gBey_ kBey_ bBey
    have Dmad := dfk (ok_made FMad MKi Dope (Dtex 30) T Gc (by decide)) gMad_ kMad_ bMad
    have Dane := df_chainB (P := l.prog) (w := w) (base := base) 13 (fun n => n + 33) (fun n => spAnew K C n) gAne_ kAne_ bAne (sp1_zero fun vs H Q E => no_anew0 vs H Q E) (fun n hn IH => ok_anew FAne IH (Dmad.up (by omega)) T (by omega))
    have Dorn := dfk (ok_orNone FOrn ((Ddpt 12).up (show 16 ≤ 46 by decide)) (Dane 13 (Nat.le_refl _)) (Dbey.up (show 14 ≤ 46 by decide)) T) gOrn_ kOrn_ bOrn
    have OLa := ok_laid FLad Dorn XT
    have Dnei := dfk (P := l.prog) (w := w) (base := base) (ok_nb FNei T) gNei_ kNei_ bNei
    have Dspl := dfk (P := l.prog) (w := w) (base := base) (ok_splits FSpl T) gSpl_ kSpl_ bSpl
    have Dgat := dfk (ok_gath FGat Dspl T) gGat_ kGat_ bGat
    have Down := dfk (ok_own FOwn MKi Dnei Dgat T Gc) gOwn_ kOwn_ bOwn
    have Dsos := df_chainB (P := l.prog) (w := w) (base := base) 13 (fun n => n + 3) (fun n => spSo K C n) gSos_ kSos_ bSos (sp1_zero fun vs H Q E => no_so0 vs H Q E) (fun n hn IH => ok_so FSos IH MKi Down T Gc (by omega) (by omega))
    have Dbyt := dfk (ok_bt FByt (Dtex 30) T) gByt_ kByt_ bByt
    have OSe := ok_seen FSee OLa gLad_ kLad_ bLad (Dsos 13 (Nat.le_refl _)) Dbyt (by decide) (by decide) (by decide)
    have Dlte := df_chain (P := l.prog) (w := w) (base := base) (fun n => n) (fun n => sp1 K n fun g => .str (text g)) gLTe_ kLTe_ bLTe (sp1_zero fun vs H Q E => no_dp0 vs H Q E) (fun n IH => ok_ltext FLTe IH T)
    have Dlpo := df_chain (P := l.prog) (w := w) (base := base) (fun n => n) (fun n => sp1 K n fun g => .int (points g)) gLPo_ kLPo_ bLPo (sp1_zero fun vs H Q E => no_dp0 vs H Q E) (fun n IH => ok_lpts FLPo IH T)
    have Dlde := df_chain (P := l.prog) (w := w) (base := base) (fun n => n) (fun n => sp1 K n fun g => .int (deep g)) gLDe_ kLDe_ bLDe (sp1_zero fun vs H Q E => no_dp0 vs H Q E) (fun n IH => ok_ldeep FLDe IH T)
    have Dlki := dfk (P := l.prog) (w := w) (base := base) (ok_lkinds FLKi T) gLKi_ kLKi_ bLKi
    have TBL := TBs (kLai, PL) List.mem_cons_self
    have uL : ∀ p ∈ [(PL, qLaid)], p.1 = PL → p.2 = qLaid := fun p hp e => by
      simp only [List.mem_cons, List.not_mem_nil, or_false] at hp
      rcases hp with rfl
      rfl
    have Dlai := df_chainB (P := l.prog) (w := w) (base := base) 30 (fun n => n + 33) (fun n => spLLaid K [(PL, qLaid)] n) gLai_ kLai_ bLai (sp1_zero fun vs H Q E => no_laid0 vs H Q E) (fun n hn IH => ok_llaid FLai IH (Dlte 30) T (Nat.le_of_lt hn) (by decide) (by omega) TBL List.mem_cons_self uL)
    have D30 : Df l.prog w K mg base C8.CX0 "_law_laid" 63 ["_law_kinds_here", "_law_draft_here"] (spLLaid K [(PL, qLaid)] 30) := Dlai 30 (Nat.le_refl _)
    have Dlea := dfk (ok_leaf (TT := [(PL, qLaid)]) FLea DPi T) gLea_ kLea_ bLea
    have Dtrm := df_chain (P := l.prog) (w := w) (base := base) (fun n => n + 63) (fun n => spTerm K [(PL, qLaid)] n) gTrm_ kTrm_ bTrm (sp1_zero fun vs H Q E => no_term0 vs H Q E) (fun n IH => ok_term' FTrm IH DTk DPi Dlea D30 Dlki T (by omega) (by omega) (by decide))
    have Dloo := df_chain (P := l.prog) (w := w) (base := base) (fun n => n + 2) (fun n => spLoose K [(PL, qLaid)] n) gLoo_ kLoo_ bLoo (sp1_zero fun vs H Q E => no_loose0 vs H Q E) (fun n IH => ok_loose FLoo IH DTk T (by omega))
    have Ddft := dfk (ok_draftT FDft (Dloo 30) (Dlpo 30) (Dlde 30) (by decide) (by decide) (by decide)) gDft_ kDft_ bDft
    have Dsub := dfk (P := l.prog) (w := w) (base := base) (ok_subs FSub T) gSub_ kSub_ bSub
    have Dpla := dfk (ok_pl FPla Dsub T) gPla_ kPla_ bPla
    have Dall := df_chain (P := l.prog) (w := w) (base := base) (fun n => n + 2) (fun n => spAll K n) gAll_ kAll_ bAll (sp1_zero fun vs H Q E => no_all0 vs H Q E) (fun n IH => ok_all FAll IH Dpla T (by omega))
    have Dris := dfk (ok_rise FRis (Dlte 30) T) gRis_ kRis_ bRis
    have Dwil := dfk (ok_wideL FWil DTk DPi Dlea D30 Dlki T (by decide) (by decide)) gWil_ kWil_ bWil
    have Dsgr := dfk (ok_sgR (TT := [(PL, qLaid)]) FSgr DTk DWo T w_enumerate) gSgr_ kSgr_ bSgr
    exact ok_law (M := 77) FLaw T Gc hC MK OI bmIn DBe DTk Dsgr Dlki (Dtrm 8) Dwil Ddft (Dall 30) Dris OSe gSee_ kSee_ bSee kbF (by decide) (by decide) (by decide) (by decide) (by decide) (by decide) (by decide) (by decide) (by decide)
end K1
open PySem PySem.W PyProof.Rows
set_option Elab.async false
set_option maxRecDepth 100000 in
set_option maxHeartbeats 0 in
theorem PySem.Challenge.cw_termyard_k10_terms_seen_holds : PySem.Challenge.rw_termyard_k10_terms_seen.Holds := by
  w_on; o_law; k_head; (case hw => w_witness2)
  k_fill
  refine K1.walk_G (l := PySem.Challenge.rw_termyard_k10_terms_seen) (n := 63) (k := 78) (x := "_law_script") rfl (by decide) rfl ⟨rfl, by decide, by decide⟩ (fun w h Y => PySem.W.km_in_of Y) ?F
  case F =>
    intro w mg fa h Y KX G hmg
    have hT8 := PySem.W.km_tabs_of Y
    refine' K1.all_mk (PL := 352) KX G hmg hT8 ?q_gC ?q_gCN ?q_gCT ?q_aNum ?q_lNum ?q_cNum ?q_kNum_ ?q_aLst ?q_lLst ?q_cLst ?q_kLst_ ?q_aSma ?q_lSma ?q_cSma ?q_kSma_ ?q_aNam ?q_lNam ?q_cNam ?q_kNam_ ?q_aGap ?q_lGap ?q_cGap ?q_kGap_ ?q_aSig ?q_lSig ?q_cSig ?q_kSig_ ?q_aTex ?q_lTex ?q_cTex ?q_kTex_ ?q_aPts ?q_lPts ?q_cPts ?q_kPts_ ?q_aDee ?q_lDee ?q_cDee ?q_kDee_ ?q_aWid ?q_lWid ?q_cWid ?q_kWid_ ?q_aBey ?q_lBey ?q_cBey ?q_kBey_ ?q_aHPa ?q_lHPa ?q_cHPa ?q_kHPa_ ?q_aDpt ?q_lDpt ?q_cDpt ?q_kDpt_ ?q_aMad ?q_lMad ?q_cMad ?q_kMad_ ?q_aOpe ?q_lOpe ?q_cOpe ?q_kOpe_ ?q_aAne ?q_lAne ?q_cAne ?q_kAne_ ?q_aOrn ?q_lOrn ?q_cOrn ?q_kOrn_ ?q_aLad ?q_lLad ?q_cLad ?q_kLad_ ?q_aNei ?q_lNei ?q_cNei ?q_kNei_ ?q_aSpl ?q_lSpl ?q_cSpl ?q_kSpl_ ?q_aGat ?q_lGat ?q_cGat ?q_kGat_ ?q_aOwn ?q_lOwn ?q_cOwn ?q_kOwn_ ?q_aSos ?q_lSos ?q_cSos ?q_kSos_ ?q_aByt ?q_lByt ?q_cByt ?q_kByt_ ?q_aSee ?q_lSee ?q_cSee ?q_kSee_ ?q_aBeg ?q_lBeg ?q_cBeg ?q_kBeg_ ?q_aMix ?q_lMix ?q_cMix ?q_kMix_ ?q_aTak ?q_lTak ?q_cTak ?q_kTak_ ?q_aPic ?q_lPic ?q_cPic ?q_kPic_ ?q_aWor ?q_lWor ?q_cWor ?q_kWor_ ?q_aSgr ?q_lSgr ?q_cSgr ?q_kSgr_ ?q_aLKi ?q_lLKi ?q_cLKi ?q_kLKi_ ?q_aLTe ?q_lLTe ?q_cLTe ?q_kLTe_ ?q_aLPo ?q_lLPo ?q_cLPo ?q_kLPo_ ?q_aLDe ?q_lLDe ?q_cLDe ?q_kLDe_ ?q_aLea ?q_lLea ?q_cLea ?q_kLea_ ?q_aTrm ?q_lTrm ?q_cTrm ?q_kTrm_ ?q_aLoo ?q_lLoo ?q_cLoo ?q_kLoo_ ?q_aDft ?q_lDft ?q_cDft ?q_kDft_ ?q_aSub ?q_lSub ?q_cSub ?q_kSub_ ?q_aPla ?q_lPla ?q_cPla ?q_kPla_ ?q_aAll ?q_lAll ?q_cAll ?q_kAll_ ?q_aRis ?q_lRis ?q_cRis ?q_kRis_ ?q_aWil ?q_lWil ?q_cWil ?q_kWil_ ?q_aLai ?q_lLai ?q_cLai ?q_kLai_ ?q_aLaw ?q_lLaw ?q_cLaw ?q_kLaw_ ?q_amIn ?q_imIn ?q_lmIn ?q_cmIn ?q_kmIn_ ?q_amHa ?q_imHa ?q_lmHa ?q_cmHa ?q_kmHa_ ?q_amKi ?q_imKi ?q_lmKi ?q_cmKi ?q_kmKi_ ?q_amMa ?q_imMa ?q_lmMa ?q_cmMa ?q_kmMa_ ?q_xSM ?q_xNL ?q_xMS ?q_xMP ?q_xGR ?q_xGL ?q_xPO ?q_xDE ?q_xPA ?q_z_isinstance ?q_z_int ?q_z_bool ?q_z_str ?q_z_list ?q_z_tuple ?q_z_len ?q_z_all ?q_z_range ?q_z_repr ?q_z_dict ?q_z_sum ?q_z_max ?q_z_min ?q_z_sorted ?q_z_set ?q_z_enumerate ?q_pg ?q_hd ?q_po ?q_sa ?q_nR ?q_nT ?q_mkC ?q_kpC ?q_xN ?q_kN ?q_sN ?q_tN ?q_xT ?q_kT ?q_sT ?q_tT ?q_mL ?q_oL ?q_hdL
    (case q_gC => first | k_is | rfl | decide +kernel | k_exc)
    (case q_gCN => first | k_is | rfl | decide +kernel | k_exc)
    (case q_gCT => first | k_is | rfl | decide +kernel | k_exc)
    (case q_aNum => first | k_is | rfl | decide +kernel | k_exc)
    (case q_lNum => first | k_is | rfl | decide +kernel | k_exc)
    (case q_cNum => first | k_is | rfl | decide +kernel | k_exc)
    (case q_kNum_ => first | k_is | rfl | decide +kernel | k_exc)
    (case q_aLst => first | k_is | rfl | decide +kernel | k_exc)
    (case q_lLst => first | k_is | rfl | decide +kernel | k_exc)
    (case q_cLst => first | k_is | rfl | decide +kernel | k_exc)
    (case q_kLst_ => first | k_is | rfl | decide +kernel | k_exc)
    (case q_aSma => first | k_is | rfl | decide +kernel | k_exc)
    (case q_lSma => first | k_is | rfl | decide +kernel | k_exc)
    (case q_cSma => first | k_is | rfl | decide +kernel | k_exc)
    (case q_kSma_ => first | k_is | rfl | decide +kernel | k_exc)
    (case q_aNam => first | k_is | rfl | decide +kernel | k_exc)
    (case q_lNam => first | k_is | rfl | decide +kernel | k_exc)
    (case q_cNam => first | k_is | rfl | decide +kernel | k_exc)
    (case q_kNam_ => first | k_is | rfl | decide +kernel | k_exc)
    (case q_aGap => first | k_is | rfl | decide +kernel | k_exc)
    (case q_lGap => first | k_is | rfl | decide +kernel | k_exc)
    (case q_cGap => first | k_is | rfl | decide +kernel | k_exc)
    (case q_kGap_ => first | k_is | rfl | decide +kernel | k_exc)
    (case q_aSig => first | k_is | rfl | decide +kernel | k_exc)
    (case q_lSig => first | k_is | rfl | decide +kernel | k_exc)
    (case q_cSig => first | k_is | rfl | decide +kernel | k_exc)
    (case q_kSig_ => first | k_is | rfl | decide +kernel | k_exc)
    (case q_aTex => first | k_is | rfl | decide +kernel | k_exc)
    (case q_lTex => first | k_is | rfl | decide +kernel | k_exc)
    (case q_cTex => first | k_is | rfl | decide +kernel | k_exc)
    (case q_kTex_ => first | k_is | rfl | decide +kernel | k_exc)
    (case q_aPts => first | k_is | rfl | decide +kernel | k_exc)
    (case q_lPts => first | k_is | rfl | decide +kernel | k_exc)
    (case q_cPts => first | k_is | rfl | decide +kernel | k_exc)
    (case q_kPts_ => first | k_is | rfl | decide +kernel | k_exc)
    (case q_aDee => first | k_is | rfl | decide +kernel | k_exc)
    (case q_lDee => first | k_is | rfl | decide +kernel | k_exc)
    (case q_cDee => first | k_is | rfl | decide +kernel | k_exc)
    (case q_kDee_ => first | k_is | rfl | decide +kernel | k_exc)
    (case q_aWid => first | k_is | rfl | decide +kernel | k_exc)
    (case q_lWid => first | k_is | rfl | decide +kernel | k_exc)
    (case q_cWid => first | k_is | rfl | decide +kernel | k_exc)
    (case q_kWid_ => first | k_is | rfl | decide +kernel | k_exc)
    (case q_aBey => first | k_is | rfl | decide +kernel | k_exc)
    (case q_lBey => first | k_is | rfl | decide +kernel | k_exc)
    (case q_cBey => first | k_is | rfl | decide +kernel | k_exc)
    (case q_kBey_ => first | k_is | rfl | decide +kernel | k_exc)
    (case q_aHPa => first | k_is | rfl | decide +kernel | k_exc)
    (case q_lHPa => first | k_is | rfl | decide +kernel | k_exc)
    (case q_cHPa => first | k_is | rfl | decide +kernel | k_exc)
    (case q_kHPa_ => first | k_is | rfl | decide +kernel | k_exc)
    (case q_aDpt => first | k_is | rfl | decide +kernel | k_exc)
    (case q_lDpt => first | k_is | rfl | decide +kernel | k_exc)
    (case q_cDpt => first | k_is | rfl | decide +kernel | k_exc)
    (case q_kDpt_ => first | k_is | rfl | decide +kernel | k_exc)
    (case q_aMad => first | k_is | rfl | decide +kernel | k_exc)
    (case q_lMad => first | k_is | rfl | decide +kernel | k_exc)
    (case q_cMad => first | k_is | rfl | decide +kernel | k_exc)
    (case q_kMad_ => first | k_is | rfl | decide +kernel | k_exc)
    (case q_aOpe => first | k_is | rfl | decide +kernel | k_exc)
    (case q_lOpe => first | k_is | rfl | decide +kernel | k_exc)
    (case q_cOpe => first | k_is | rfl | decide +kernel | k_exc)
    (case q_kOpe_ => first | k_is | rfl | decide +kernel | k_exc)
    (case q_aAne => first | k_is | rfl | decide +kernel | k_exc)
    (case q_lAne => first | k_is | rfl | decide +kernel | k_exc)
    (case q_cAne => first | k_is | rfl | decide +kernel | k_exc)
    (case q_kAne_ => first | k_is | rfl | decide +kernel | k_exc)
    (case q_aOrn => first | k_is | rfl | decide +kernel | k_exc)
    (case q_lOrn => first | k_is | rfl | decide +kernel | k_exc)
    (case q_cOrn => first | k_is | rfl | decide +kernel | k_exc)
    (case q_kOrn_ => first | k_is | rfl | decide +kernel | k_exc)
    (case q_aLad => first | k_is | rfl | decide +kernel | k_exc)
    (case q_lLad => first | k_is | rfl | decide +kernel | k_exc)
    (case q_cLad => first | k_is | rfl | decide +kernel | k_exc)
    (case q_kLad_ => first | k_is | rfl | decide +kernel | k_exc)
    (case q_aNei => first | k_is | rfl | decide +kernel | k_exc)
    (case q_lNei => first | k_is | rfl | decide +kernel | k_exc)
    (case q_cNei => first | k_is | rfl | decide +kernel | k_exc)
    (case q_kNei_ => first | k_is | rfl | decide +kernel | k_exc)
    (case q_aSpl => first | k_is | rfl | decide +kernel | k_exc)
    (case q_lSpl => first | k_is | rfl | decide +kernel | k_exc)
    (case q_cSpl => first | k_is | rfl | decide +kernel | k_exc)
    (case q_kSpl_ => first | k_is | rfl | decide +kernel | k_exc)
    (case q_aGat => first | k_is | rfl | decide +kernel | k_exc)
    (case q_lGat => first | k_is | rfl | decide +kernel | k_exc)
    (case q_cGat => first | k_is | rfl | decide +kernel | k_exc)
    (case q_kGat_ => first | k_is | rfl | decide +kernel | k_exc)
    (case q_aOwn => first | k_is | rfl | decide +kernel | k_exc)
    (case q_lOwn => first | k_is | rfl | decide +kernel | k_exc)
    (case q_cOwn => first | k_is | rfl | decide +kernel | k_exc)
    (case q_kOwn_ => first | k_is | rfl | decide +kernel | k_exc)
    (case q_aSos => first | k_is | rfl | decide +kernel | k_exc)
    (case q_lSos => first | k_is | rfl | decide +kernel | k_exc)
    (case q_cSos => first | k_is | rfl | decide +kernel | k_exc)
    (case q_kSos_ => first | k_is | rfl | decide +kernel | k_exc)
    (case q_aByt => first | k_is | rfl | decide +kernel | k_exc)
    (case q_lByt => first | k_is | rfl | decide +kernel | k_exc)
    (case q_cByt => first | k_is | rfl | decide +kernel | k_exc)
    (case q_kByt_ => first | k_is | rfl | decide +kernel | k_exc)
    (case q_aSee => first | k_is | rfl | decide +kernel | k_exc)
    (case q_lSee => first | k_is | rfl | decide +kernel | k_exc)
    (case q_cSee => first | k_is | rfl | decide +kernel | k_exc)
    (case q_kSee_ => first | k_is | rfl | decide +kernel | k_exc)
    (case q_aBeg => first | k_is | rfl | decide +kernel | k_exc)
    (case q_lBeg => first | k_is | rfl | decide +kernel | k_exc)
    (case q_cBeg => first | k_is | rfl | decide +kernel | k_exc)
    (case q_kBeg_ => first | k_is | rfl | decide +kernel | k_exc)
    (case q_aMix => first | k_is | rfl | decide +kernel | k_exc)
    (case q_lMix => first | k_is | rfl | decide +kernel | k_exc)
    (case q_cMix => first | k_is | rfl | decide +kernel | k_exc)
    (case q_kMix_ => first | k_is | rfl | decide +kernel | k_exc)
    (case q_aTak => first | k_is | rfl | decide +kernel | k_exc)
    (case q_lTak => first | k_is | rfl | decide +kernel | k_exc)
    (case q_cTak => first | k_is | rfl | decide +kernel | k_exc)
    (case q_kTak_ => first | k_is | rfl | decide +kernel | k_exc)
    (case q_aPic => first | k_is | rfl | decide +kernel | k_exc)
    (case q_lPic => first | k_is | rfl | decide +kernel | k_exc)
    (case q_cPic => first | k_is | rfl | decide +kernel | k_exc)
    (case q_kPic_ => first | k_is | rfl | decide +kernel | k_exc)
    (case q_aWor => first | k_is | rfl | decide +kernel | k_exc)
    (case q_lWor => first | k_is | rfl | decide +kernel | k_exc)
    (case q_cWor => first | k_is | rfl | decide +kernel | k_exc)
    (case q_kWor_ => first | k_is | rfl | decide +kernel | k_exc)
    (case q_aSgr => first | k_is | rfl | decide +kernel | k_exc)
    (case q_lSgr => first | k_is | rfl | decide +kernel | k_exc)
    (case q_cSgr => first | k_is | rfl | decide +kernel | k_exc)
    (case q_kSgr_ => first | k_is | rfl | decide +kernel | k_exc)
    (case q_aLKi => first | k_is | rfl | decide +kernel | k_exc)
    (case q_lLKi => first | k_is | rfl | decide +kernel | k_exc)
    (case q_cLKi => first | k_is | rfl | decide +kernel | k_exc)
    (case q_kLKi_ => first | k_is | rfl | decide +kernel | k_exc)
    (case q_aLTe => first | k_is | rfl | decide +kernel | k_exc)
    (case q_lLTe => first | k_is | rfl | decide +kernel | k_exc)
    (case q_cLTe => first | k_is | rfl | decide +kernel | k_exc)
    (case q_kLTe_ => first | k_is | rfl | decide +kernel | k_exc)
    (case q_aLPo => first | k_is | rfl | decide +kernel | k_exc)
    (case q_lLPo => first | k_is | rfl | decide +kernel | k_exc)
    (case q_cLPo => first | k_is | rfl | decide +kernel | k_exc)
    (case q_kLPo_ => first | k_is | rfl | decide +kernel | k_exc)
    (case q_aLDe => first | k_is | rfl | decide +kernel | k_exc)
    (case q_lLDe => first | k_is | rfl | decide +kernel | k_exc)
    (case q_cLDe => first | k_is | rfl | decide +kernel | k_exc)
    (case q_kLDe_ => first | k_is | rfl | decide +kernel | k_exc)
    (case q_aLea => first | k_is | rfl | decide +kernel | k_exc)
    (case q_lLea => first | k_is | rfl | decide +kernel | k_exc)
    (case q_cLea => first | k_is | rfl | decide +kernel | k_exc)
    (case q_kLea_ => first | k_is | rfl | decide +kernel | k_exc)
    (case q_aTrm => first | k_is | rfl | decide +kernel | k_exc)
    (case q_lTrm => first | k_is | rfl | decide +kernel | k_exc)
    (case q_cTrm => first | k_is | rfl | decide +kernel | k_exc)
    (case q_kTrm_ => first | k_is | rfl | decide +kernel | k_exc)
    (case q_aLoo => first | k_is | rfl | decide +kernel | k_exc)
    (case q_lLoo => first | k_is | rfl | decide +kernel | k_exc)
    (case q_cLoo => first | k_is | rfl | decide +kernel | k_exc)
    (case q_kLoo_ => first | k_is | rfl | decide +kernel | k_exc)
    (case q_aDft => first | k_is | rfl | decide +kernel | k_exc)
    (case q_lDft => first | k_is | rfl | decide +kernel | k_exc)
    (case q_cDft => first | k_is | rfl | decide +kernel | k_exc)
    (case q_kDft_ => first | k_is | rfl | decide +kernel | k_exc)
    (case q_aSub => first | k_is | rfl | decide +kernel | k_exc)
    (case q_lSub => first | k_is | rfl | decide +kernel | k_exc)
    (case q_cSub => first | k_is | rfl | decide +kernel | k_exc)
    (case q_kSub_ => first | k_is | rfl | decide +kernel | k_exc)
    (case q_aPla => first | k_is | rfl | decide +kernel | k_exc)
    (case q_lPla => first | k_is | rfl | decide +kernel | k_exc)
    (case q_cPla => first | k_is | rfl | decide +kernel | k_exc)
    (case q_kPla_ => first | k_is | rfl | decide +kernel | k_exc)
    (case q_aAll => first | k_is | rfl | decide +kernel | k_exc)
    (case q_lAll => first | k_is | rfl | decide +kernel | k_exc)
    (case q_cAll => first | k_is | rfl | decide +kernel | k_exc)
    (case q_kAll_ => first | k_is | rfl | decide +kernel | k_exc)
    (case q_aRis => first | k_is | rfl | decide +kernel | k_exc)
    (case q_lRis => first | k_is | rfl | decide +kernel | k_exc)
    (case q_cRis => first | k_is | rfl | decide +kernel | k_exc)
    (case q_kRis_ => first | k_is | rfl | decide +kernel | k_exc)
    (case q_aWil => first | k_is | rfl | decide +kernel | k_exc)
    (case q_lWil => first | k_is | rfl | decide +kernel | k_exc)
    (case q_cWil => first | k_is | rfl | decide +kernel | k_exc)
    (case q_kWil_ => first | k_is | rfl | decide +kernel | k_exc)
    (case q_aLai => first | k_is | rfl | decide +kernel | k_exc)
    (case q_lLai => first | k_is | rfl | decide +kernel | k_exc)
    (case q_cLai => first | k_is | rfl | decide +kernel | k_exc)
    (case q_kLai_ => first | k_is | rfl | decide +kernel | k_exc)
    (case q_aLaw => first | k_is | rfl | decide +kernel | k_exc)
    (case q_lLaw => first | k_is | rfl | decide +kernel | k_exc)
    (case q_cLaw => first | k_is | rfl | decide +kernel | k_exc)
    (case q_kLaw_ => first | k_is | rfl | decide +kernel | k_exc)
    (case q_amIn => first | k_is | rfl | decide +kernel | k_exc)
    (case q_imIn => first | k_is | rfl | decide +kernel | k_exc)
    (case q_lmIn => first | k_is | rfl | decide +kernel | k_exc)
    (case q_cmIn => first | k_is | rfl | decide +kernel | k_exc)
    (case q_kmIn_ => first | k_is | rfl | decide +kernel | k_exc)
    (case q_amHa => first | k_is | rfl | decide +kernel | k_exc)
    (case q_imHa => first | k_is | rfl | decide +kernel | k_exc)
    (case q_lmHa => first | k_is | rfl | decide +kernel | k_exc)
    (case q_cmHa => first | k_is | rfl | decide +kernel | k_exc)
    (case q_kmHa_ => first | k_is | rfl | decide +kernel | k_exc)
    (case q_amKi => first | k_is | rfl | decide +kernel | k_exc)
    (case q_imKi => first | k_is | rfl | decide +kernel | k_exc)
    (case q_lmKi => first | k_is | rfl | decide +kernel | k_exc)
    (case q_cmKi => first | k_is | rfl | decide +kernel | k_exc)
    (case q_kmKi_ => first | k_is | rfl | decide +kernel | k_exc)
    (case q_amMa => first | k_is | rfl | decide +kernel | k_exc)
    (case q_imMa => first | k_is | rfl | decide +kernel | k_exc)
    (case q_lmMa => first | k_is | rfl | decide +kernel | k_exc)
    (case q_cmMa => first | k_is | rfl | decide +kernel | k_exc)
    (case q_kmMa_ => first | k_is | rfl | decide +kernel | k_exc)
    (case q_xSM => first | k_is | rfl | decide +kernel | k_exc)
    (case q_xNL => first | k_is | rfl | decide +kernel | k_exc)
    (case q_xMS => first | k_is | rfl | decide +kernel | k_exc)
    (case q_xMP => first | k_is | rfl | decide +kernel | k_exc)
    (case q_xGR => first | k_is | rfl | decide +kernel | k_exc)
    (case q_xGL => first | k_is | rfl | decide +kernel | k_exc)
    (case q_xPO => first | k_is | rfl | decide +kernel | k_exc)
    (case q_xDE => first | k_is | rfl | decide +kernel | k_exc)
    (case q_xPA => first | k_is | rfl | decide +kernel | k_exc)
    (case q_z_isinstance => first | k_is | rfl | decide +kernel | k_exc)
    (case q_z_int => first | k_is | rfl | decide +kernel | k_exc)
    (case q_z_bool => first | k_is | rfl | decide +kernel | k_exc)
    (case q_z_str => first | k_is | rfl | decide +kernel | k_exc)
    (case q_z_list => first | k_is | rfl | decide +kernel | k_exc)
    (case q_z_tuple => first | k_is | rfl | decide +kernel | k_exc)
    (case q_z_len => first | k_is | rfl | decide +kernel | k_exc)
    (case q_z_all => first | k_is | rfl | decide +kernel | k_exc)
    (case q_z_range => first | k_is | rfl | decide +kernel | k_exc)
    (case q_z_repr => first | k_is | rfl | decide +kernel | k_exc)
    (case q_z_dict => first | k_is | rfl | decide +kernel | k_exc)
    (case q_z_sum => first | k_is | rfl | decide +kernel | k_exc)
    (case q_z_max => first | k_is | rfl | decide +kernel | k_exc)
    (case q_z_min => first | k_is | rfl | decide +kernel | k_exc)
    (case q_z_sorted => first | k_is | rfl | decide +kernel | k_exc)
    (case q_z_set => first | k_is | rfl | decide +kernel | k_exc)
    (case q_z_enumerate => first | k_is | rfl | decide +kernel | k_exc)
    (case q_pg => first | k_is | rfl | decide +kernel | k_exc)
    (case q_hd => first | k_is | rfl | decide +kernel | k_exc)
    (case q_po => first | k_is | rfl | decide +kernel | k_exc)
    (case q_sa => first | k_is | rfl | decide +kernel | k_exc)
    (case q_nR => first | k_is | rfl | decide +kernel | k_exc)
    (case q_nT => first | k_is | rfl | decide +kernel | k_exc)
    (case q_mkC => first | k_is | rfl | decide +kernel | k_exc)
    (case q_kpC => first | k_is | rfl | decide +kernel | k_exc)
    (case q_xN => first | k_is | rfl | decide +kernel | k_exc)
    (case q_kN => first | k_is | rfl | decide +kernel | k_exc)
    (case q_sN => first | k_is | rfl | decide +kernel | k_exc)
    (case q_tN => first | k_is | rfl | decide +kernel | k_exc)
    (case q_xT => first | k_is | rfl | decide +kernel | k_exc)
    (case q_kT => first | k_is | rfl | decide +kernel | k_exc)
    (case q_sT => first | k_is | rfl | decide +kernel | k_exc)
    (case q_tT => first | k_is | rfl | decide +kernel | k_exc)
    (case q_mL => first | k_is | rfl | decide +kernel | k_exc)
    (case q_oL => first | k_is | rfl | decide +kernel | k_exc)
    (case q_hdL => first | k_is | rfl | decide +kernel | k_exc)
