import PyProof.Rows.All
import Wide.All
import OpenK.AllK
import Wide.FinOn
import KE.KDictSum
import KE.KDictCopyH
import PyProof.DictMoreH
import HandS.ForMost
import HandS.SortInts
import HandS.NamedTupSort
import HandS.DictTup
import HandS.SetKeys
import HandS.Wide
import HandS.ExcValue
import HandS.AnyAll
import HandS.Codes
import HandS.EndTab
import HandS.IsInst
import HandS.TupLe
import HandS.Conv
import HandS.Flow
import HandS.Style
import HandS.HeadHook4
import HandS.HeadWalk
import HandS.Head2
import HandS.Exc
import HandS.WordsExc
import HandS.ExcOwn
import HandS.ExcIs
import HandS.TryOnly
import HandS.ExcCtx
import HandS.HotCalls
import HandS.Zip
import HandS.HeadHook1
import HandS.HeadHook2
import KE.KNest
import KE.KNestM
import KE.KStateDown
import HandS.Head0
import HandS.Head1
import HandS.HeadEnd
import HandS.HeadHook3
import KE.DatumOrd
import PyProof.Rows.RowBridgeK
import HandS.DictComp
import HandS.Set
import HandS.SetFor
import HandS.Strs
import HandS.Dict
import KE.KDictDisplayH
import KE.KEqDict
import HandS.Nested
import KE.IntBitsLaws
import PySem.Challenge.RW_commonhour_k09_refused
section
set_option Elab.async false
set_option linter.all false
set_option maxRecDepth 100000
set_option maxHeartbeats 4000000
/-! sorted of tuples: whole numbers, then one text -/
namespace CH
open PySem PySem.Spec PyProof.Rows L2

def strInts (a : Str) : List Int := (a.cps.toList : List Nat).map Int.ofNat
theorem lexLt_nat : ∀ xs ys : List Nat, HT.lexLt (xs.map Int.ofNat) (ys.map Int.ofNat) = decide (xs < ys)
  | [], [] => by
    rw [List.map_nil, HT.lexLt_nil_nil]
    exact (decide_eq_false (by simp)).symm
  | [], y :: ys => by
    rw [List.map_nil, List.map_cons, HT.lexLt_nil_cons]
    exact (decide_eq_true (by simp)).symm
  | x :: xs, [] => by
    rw [List.map_nil, List.map_cons, HT.lexLt_cons_nil]
    exact (decide_eq_false (by simp)).symm
  | x :: xs, y :: ys => by
    rw [List.map_cons, List.map_cons, HT.lexLt_cons]
    by_cases e : x = y
    · subst e
      rw [if_pos rfl, lexLt_nat xs ys]
      refine decide_eq_decide.mpr ?_
      rw [List.cons_lt_cons_iff]
      constructor
      · intro h; exact .inr ⟨rfl, h⟩
      · intro h
        rcases h with h | h
        · exact absurd h (Nat.lt_irrefl _)
        · exact h.2
    · rw [if_neg (fun q => e (Int.ofNat.inj q))]
      refine decide_eq_decide.mpr ?_
      rw [List.cons_lt_cons_iff]
      constructor
      · intro h; exact .inl (by simpa using h)
      · intro h
        rcases h with h | h
        · simpa using h
        · exact absurd h.1 e

/-- v is a tuple of the ints ns, then the text z -/
def IsWd (h : Heap) (v : Value) (ns : List Int) (z : Str) : Prop := ∃ (a : Addr) (o : Obj) (its : List Value) (t : Tok) (n : Nat), v = .ref a ∧ h.get? a = some o ∧ o.cls = .type "tuple" ∧ o.data = .seq (its ++ [Value.str z t]).toArray n ∧ IntsAre its ns
theorem IsWd.keeps {h h' : Heap} {v : Value} {ns : List Int} {z : Str} (p : IsWd h v ns z) (k : ∀ b o, h.get? b = some o → o.cls = .type "tuple" → h'.get? b = some o) : IsWd h' v ns z := by
  obtain ⟨a, o, its, t, n, e, ho, hc, hd, hi⟩ := p
  exact ⟨a, o, its, t, n, e, k _ _ ho hc, hc, hd, hi⟩
def wkey (ns : List Int) (z : Str) : List Int := ns ++ strInts z
section
variable {prog : Program} {w : World} {A : Around} {E : Value → Shared → Prop} {s : Shared}
theorem wd_lex {z y : Str} {t u : Tok} {Q : Bool → Shared → Prop} : ∀ {its jts : List Value} {ns ms : List Int} {i : Nat}, IntsAre its ns → IntsAre jts ms → ns.length = ms.length → 0 < i + ns.length → Q (HT.lexLt (wkey ns z) (wkey ms y)) s →
    PySem.W.KatLex prog w A true false Q ((its ++ [Value.str z t]).zip (jts ++ [Value.str y u])) i s
  | _, _, _, _, i, .nil, .nil, _, h0, h => by
    show PySem.W.KatLex prog w A true false Q [(Value.str z t, Value.str y u)] i s
    have h : Q (HT.lexLt (strInts z) (strInts y)) s := h
    unfold strInts at h
    rw [lexLt_nat] at h
    refine PySem.W.kat_cons (wpAny_eqBool_str ?_)
    refine PySem.W.kat_go (fun e1 => ?_) (fun e1 => ?_)
    · have ex : z = y := by simpa using e1
      subst ex
      rw [decide_eq_false (List.lt_irrefl _)] at h
      exact PySem.W.kat_yes (PySem.W.kat_nil h)
    · have hi : (true && i == 0) = false := by
        have h1 : 0 < i := h0
        have : i ≠ 0 := by omega
        simp [this]
      have key := PySem.W.kat_one (prog := prog) (w := w) (A := A) (E := fun _ _ => False) (s := s) (Q := Q) (Value.str z t) (Value.str y u) (PyProof.Rows.lt_str h)
      rw [← hi] at key
      exact PySem.W.kat_no key
  | _, _, _, _, i, .cons a v hi, .cons b v2 hj, hl, h0, h => by
    rename_i its' ns' jts' ms'
    show PySem.W.KatLex prog w A true false Q ((Value.int a v, Value.int b v2) :: ((its' ++ [Value.str z t]).zip (jts' ++ [Value.str y u]))) i s
    have hl' : ns'.length = ms'.length := Nat.succ.inj hl
    have h : Q (HT.lexLt (a :: wkey ns' z) (b :: wkey ms' y)) s := h
    rw [HT.lexLt_cons] at h
    refine PySem.W.kat_cons (SeqAt.EqAt.int_int a v b v2 prog w _ _ ?_)
    refine PySem.W.kat_go (fun e1 => ?_) (fun e1 => ?_)
    · have ex : a = b := by simpa using e1
      rw [if_pos ex] at h
      exact PySem.W.kat_yes (wd_lex hi hj hl' (by omega) h)
    · have ex : ¬ a = b := by simpa using e1
      rw [if_neg ex] at h
      refine PySem.W.kat_no ?_
      cases hb : (true && i == 0) with
      | true => exact oneLt_int h
      | false => exact PySem.W.kat_one _ _ (PyProof.Rows.lt_int h)
theorem wd_cmp {vs : List Value} {k : Value → List Int × Str} {m : Nat} (hm0 : 0 < m) (hp : ∀ v ∈ vs, IsWd s.heap v (k v).1 (k v).2 ∧ (k v).1.length = m) : SrtO.Cmp prog w A s (tuples' true) (fun p => p.1 ∈ vs) (SrtO.lt2 fun v u => HT.lexLt (wkey (k v).1 (k v).2) (wkey (k u).1 (k u).2)) := by
  intro p q hm hm'
  obtain ⟨h1, l1⟩ := hp _ hm
  obtain ⟨h2, l2⟩ := hp _ hm'
  show wpAny (model prog w) A (keyLt' (tuples' true) p.1 q.1) (fun r s' => s' = s ∧ r = HT.lexLt (wkey (k p.1).1 (k p.1).2) (wkey (k q.1).1 (k q.1).2)) (fun _ _ => False) s
  generalize (k p.1).1 = x at h1 l1 ⊢
  generalize (k p.1).2 = y at h1 ⊢
  generalize (k q.1).1 = x' at h2 l2 ⊢
  generalize (k q.1).2 = y' at h2 ⊢
  obtain ⟨a, o, its, t, n, e, ho, hc, hd, hi⟩ := h1
  obtain ⟨a', o', its', t', n', e', ho', hc', hd', hi'⟩ := h2
  rw [e, e']
  have z1 : its.length = m := hi.length.trans l1
  have z2 : its'.length = m := hi'.length.trans l2
  refine PySem.W.kat_lt ho hd ho' hd' ?_
  have ef : decide ((its ++ [Value.str y t]).toArray.size < (its' ++ [Value.str y' t']).toArray.size) = false := decide_eq_false (by
    simp only [List.size_toArray, List.length_append, List.length_cons, List.length_nil]
    omega)
  rw [ef]
  exact wd_lex hi hi' (l1.trans l2.symm) (by omega) ⟨rfl, rfl⟩
theorem wd_firsts {h : Heap} {k : Value → List Int × Str} {m : Nat} (hm0 : 0 < m) : ∀ {vs : List Value}, (∀ v ∈ vs, IsWd h v (k v).1 (k v).2 ∧ (k v).1.length = m) → ∃ fs : List Value, PySem.W.KatTups h vs fs ∧ fs.length = vs.length ∧ ∀ f ∈ fs, ∃ x t, f = Value.int x t
  | [], _ => ⟨[], PySem.W.KatTups.nil, rfl, fun _ hm => by simp at hm⟩
  | v :: vs, hp => by
    obtain ⟨fs, h1, h2, h3⟩ := wd_firsts (k := k) hm0 (vs := vs) fun v' hm => hp v' (List.mem_cons_of_mem _ hm)
    obtain ⟨⟨a, o, its, t, n, e, ho, hc, hd, hi⟩, l⟩ := hp v (List.mem_cons_self ..)
    have z1 : its.length = m := hi.length.trans l
    generalize hk : (k v).1 = ns at hi l
    cases hi with
    | nil => simp at z1; omega
    | cons x tx hi' =>
      refine ⟨.int x tx :: fs, ?_, by rw [List.length_cons, List.length_cons, h2], fun f hm => ?_⟩
      · subst e
        exact PySem.W.KatTups.cons ho hc hd (by simp) h1
      · rcases List.mem_cons.mp hm with rfl | hm
        · exact ⟨x, tx, rfl⟩
        · exact h3 f hm
theorem wd_sortable {a : Addr} {vs : List Value} {k : Value → List Int × Str} {m : Nat} (hm0 : 0 < m) (h0 : 0 < vs.length) (hp : ∀ v ∈ vs, IsWd s.heap v (k v).1 (k v).2 ∧ (k v).1.length = m) (ha : ∀ o, s.heap.get? a = some o → o.cls ≠ .type "tuple") :
    SrtO.SortableO prog w A s a vs fun v u => HT.lexLt (wkey (k v).1 (k v).2) (wkey (k u).1 (k u).2) := by
  intro h' keep
  have hp' : ∀ v ∈ vs, IsWd h' v (k v).1 (k v).2 ∧ (k v).1.length = m := fun v hm => ⟨(hp v hm).1.keeps fun b o e c => keep b o (fun z => by subst z; exact ha o e c) e, (hp v hm).2⟩
  obtain ⟨fs, h1, h2, h3⟩ := wd_firsts hm0 hp'
  refine ⟨tuples' true, fun Q E hq => ?_, wd_cmp (s := { s with heap := h' }) hm0 hp'⟩
  refine PySem.W.kat_kind (s := { s with heap := h' }) (T := .type "int") h1 (by omega) (fun f hm => ?_) (by rfl) ?_
  · obtain ⟨x, t, rfl⟩ := h3 f hm
    exact PySem.W.Looks.now
  · have e : (Value.type "int" != Value.type "tuple") = true := by first | decide +kernel | rfl | decide
    rw [e]
    exact hq
end
end CH
end

section
set_option Elab.async false
set_option linter.all false
set_option maxRecDepth 100000
set_option maxHeartbeats 4000000
namespace CH
open PySem PySem.Spec PyProof.Rows L2
/-! ### sorted of words, by rules of the layer -/
def wdV (p : List Int × Str) : List V := p.1.map V.int ++ [.str p.2]
def adO : Value → Addr
  | .ref a => a
  | _ => 0
theorem vals_wd {h : Heap} {t : Addr} {p : List Int × Str} {its : List Value} (r : Vals (wdV p) its) (ht : IsTup h t its.toArray) : IsWd h (.ref t) p.1 p.2 := by
  obtain ⟨o, ho, hc, n, hd⟩ := ht
  obtain ⟨ns, z⟩ := p
  unfold wdV at r
  have split : ∀ (ns : List Int) (its : List Value), Vals (ns.map V.int ++ [V.str z]) its → ∃ js t, its = js ++ [Value.str z t] ∧ IntsAre js ns := by
    intro ns
    induction ns with
    | nil =>
      intro its r
      cases r with
      | cons r1 r2 =>
        cases r2
        obtain ⟨t, rfl⟩ := r1
        exact ⟨[], t, rfl, .nil⟩
    | cons n ns ih =>
      intro its r
      cases r with
      | cons r1 r2 =>
        obtain ⟨t, rfl⟩ := r1
        obtain ⟨js, t2, rfl, hi⟩ := ih _ r2
        exact ⟨Value.int n t :: js, t2, rfl, .cons n t hi⟩
  obtain ⟨js, tk, rfl, hi⟩ := split ns its r
  exact ⟨t, o, js, tk, n, rfl, ho, hc, hd, hi⟩
theorem refs_vals : ∀ {ts : List Addr} {us : List Value}, Vals (ts.map V.ref) us → us = ts.map Value.ref
  | [], us, r => by
    cases r
    rfl
  | t :: ts, us, r => by
    cases r with
    | cons h q =>
      cases h
      rw [List.map_cons, ← refs_vals q]
theorem vals_refs : ∀ ts : List Addr, Vals (ts.map V.ref) (ts.map Value.ref)
  | [] => .nil
  | _ :: ts => .cons rfl (vals_refs ts)
theorem ad_map (ts : List Addr) : (ts.map Value.ref).map adO = ts := by
  rw [List.map_map]
  exact (List.map_congr_left fun _ _ => rfl).trans (List.map_id ts)
theorem ref_map : ∀ {out : List Value}, (∀ v ∈ out, ∃ t, v = Value.ref t) → out = (out.map adO).map Value.ref
  | [], _ => rfl
  | v :: out, h => by
    obtain ⟨t, e⟩ := h v List.mem_cons_self
    subst e
    rw [List.map_cons, List.map_cons, ← ref_map fun u hu => h u (List.mem_cons_of_mem _ hu)] <;> rfl
abbrev keyOf (k : Addr → List Int × Str) (t : Addr) : List Int := wkey (k t).1 (k t).2
abbrev ltVk (k : Addr → List Int × Str) : Value → Value → Bool := fun v u => HT.lexLt (wkey (k (adO v)).1 (k (adO v)).2) (wkey (k (adO u)).1 (k (adO u)).2)
theorem ltVk_swo (k : Addr → List Int × Str) : SrtO.Swo (ltVk k) := NtL.swo_lexL fun v => wkey (k (adO v)).1 (k (adO v)).2
/-- what comes out of the sort -/
theorem wd_out {k : Addr → List Int × Str} {ts : List Addr} {out : List Value} (h1 : SrtO.Srtd (ltVk k) out) (h2 : SrtO.Stb (ltVk k) out (ts.map Value.ref)) :
    ∃ ts' : List Addr, out = ts'.map Value.ref ∧ ts'.Perm ts ∧ ts'.Pairwise fun x y => HT.lexLt (keyOf k y) (keyOf k x) = false := by
  have eo : out = (out.map adO).map Value.ref := ref_map fun u hm => by
    obtain ⟨t, _, e⟩ := List.mem_map.mp (h2.perm.mem_iff.mp hm)
    exact ⟨t, e.symm⟩
  refine ⟨out.map adO, eo, ?_, List.pairwise_map.mpr (h1.imp fun {x y} z => z)⟩
  have p1 := h2.perm.map adO
  rw [ad_map] at p1
  exact p1
/-- the words' places -/
def WdsAt (K : PySem.W.Frag) (H : Hp) (k : Addr → List Int × Str) (m : Nat) (ts : List Addr) : Prop := ∀ t ∈ ts, SqT K H t (wdV (k t)) ∧ (k t).1.length = m
/-- sorted(xs), xs a list of tuples: m ints, a text -/
def rSortWd (K : PySem.W.Frag) : List V → Hp → VK → Prop := fun vs H Q => ∃ (a : Addr) (ts : List Addr) (k : Addr → List Int × Str) (m : Nat), vs = [V.ref a] ∧ SqL K H a (ts.map V.ref) ∧ 0 < m ∧ WdsAt K H k m ts ∧
  ∀ (ts' : List Addr) (q : Addr), ts'.Perm ts → ts'.Pairwise (fun x y => HT.lexLt (keyOf k y) (keyOf k x) = false) → H q = none → Q (.ref q) (upd H q (.lst (ts'.map V.ref)))
/-- the view d.values() at p -/
def valsO (p d : Addr) : HO := .ext fun h => h.IsValuesView p d
theorem valsO_ok {P : Program} {w : World} {H : Hp} {h : Heap} {p d : Addr} (e : h.get? p = some { cls := .type "dict_values", data := .fields #[.ref d] }) : ObjOk P w H h p (valsO p d) :=
  ⟨⟨_, e, rfl, rfl⟩, ⟨_, e⟩, fun h1 h2 x k => let ⟨o, ho, r⟩ := x; ⟨o, k o ho, r⟩⟩
def rValuesT : V → List V → Hp → VK → Prop := fun x xs H Q => ∃ (a : Addr) (kvs : List (List L2.Key × V)), x = .ref a ∧ xs = [] ∧ H a = some (.dT kvs) ∧ ∀ p, H p = none → Q (.ref p) (upd H p (valsO p a))
/-- sorted(d.values()), the values such tuples -/
def rSortVals (K : PySem.W.Frag) : List V → Hp → VK → Prop := fun vs H Q => ∃ (p a : Addr) (kvs : List (List L2.Key × V)) (ts : List Addr) (k : Addr → List Int × Str) (m : Nat), vs = [V.ref p] ∧ H p = some (valsO p a) ∧ H a = some (.dT kvs) ∧ kvs.map (·.2) = ts.map V.ref ∧ 0 < m ∧ WdsAt K H k m ts ∧
  ∀ (ts' : List Addr) (q : Addr), ts'.Perm ts → ts'.Pairwise (fun x y => HT.lexLt (keyOf k y) (keyOf k x) = false) → H q = none → Q (.ref q) (upd H q (.lst (ts'.map V.ref)))
theorem objOk_there {P : Program} {w : World} {H : Hp} {h : Heap} {a : Addr} {o : HO} (x : ObjOk P w H h a o) : ∃ u, h.get? a = some u := by
  cases o with
  | lst xs => exact let ⟨_, _, _, _, e⟩ := x; ⟨_, e⟩
  | tup xs => exact let ⟨_, _, _, o, e, _⟩ := x; ⟨o, e⟩
  | dK kvs => exact let ⟨_, _, _, _, o, _, _, e, _⟩ := x; ⟨o, e⟩
  | dT kvs => exact let ⟨_, _, _, _, o, _, _, e, _⟩ := x; ⟨o, e⟩
  | set S n => exact let ⟨o, _, _, _, e, _⟩ := x; ⟨o, e⟩
  | ins C dx fs => exact let ⟨_, _, _, e, _⟩ := x; ⟨_, e⟩
  | own y => exact x
  | xd fs => exact let ⟨_, ⟨o, _, _, e, _⟩, _⟩ := x; ⟨o, e⟩
  | rng lo hi => exact let ⟨_, _, _, e⟩ := x; ⟨_, e⟩
  | frz ob u => exact let ⟨e, _⟩ := x; ⟨_, e⟩
  | tbl ps => exact ⟨_, x⟩
  | met f y => exact ⟨_, x⟩
  | ext φ => exact let ⟨_, e, _⟩ := x; e
section
variable {X : Cx}
theorem wds_heap {pins : List (Addr × Obj)} {σ : L2.St} {H : Hp} {s : Shared} {k : Addr → List Int × Str} {m : Nat} {ts : List Addr} (I : Inv X pins σ H s) (hx : WdsAt X.K H k m ts) :
    ∀ v ∈ ts.map Value.ref, IsWd s.heap v (k (adO v)).1 (k (adO v)).2 ∧ (k (adO v)).1.length = m := fun v hv => by
  obtain ⟨t, ht, rfl⟩ := List.mem_map.mp hv
  obtain ⟨h1, h2⟩ := hx t ht
  obtain ⟨its, r, it, _⟩ := I.tuple h1
  exact ⟨vals_wd r it, h2⟩
theorem cr_sortedWd : CallR X (.builtin "sorted") (rSortWd X.K) := by
  intro pins s σ H vs us Q I r h
  obtain ⟨a, ts, k, m, rfl, hs, hm, hx, q⟩ := h
  obtain ⟨its, rv, hl, hz⟩ := I.list hs
  rw [Vals.ref1 r]
  obtain rfl := refs_vals rv
  have hz' : (ts.map Value.ref).length ≤ sizeLine := by rw [List.length_map] at hz ⊢; exact hz
  have hw := wds_heap I hx
  refine SrtO.sorted_ord (ltVk_swo k) hl.isList hz' (fun h2 h₁ a' ha kk => ?_) fun out h1 h2 => ?_
  · refine wd_sortable (k := fun v => k (adO v)) (s := { s with heap := h₁ }) hm (by omega) (fun v hv => ⟨(hw v hv).1.keeps fun b o e _ => (kk b o e).2, (hw v hv).2⟩) fun o e => ?_
    have e' : some o = some (seqObj "list" (ts.map Value.ref).toArray 0) := e.symm.trans ha
    cases e'
    intro c
    exact absurd (Value.type.inj c) (by decide)
  · obtain ⟨ts', rfl, k2, k3⟩ := wd_out h1 h2
    obtain ⟨ep, he'⟩ := PyProof.Rows.sortedAll_at s.heap (ts.map Value.ref) (ts'.map Value.ref).toArray
    have hlen : (ts'.map V.ref).length ≤ sizeLine := by
      rw [List.length_map, k2.length_eq]
      rw [List.length_map] at hz
      exact hz
    exact ⟨.ref _, upd H (s.heap.objs.size + 1) (.lst (ts'.map V.ref)), I.laid (t' := s.toks) (fun _ _ => PyProof.Rows.sortedAll_old) (Nat.le_succ _) ⟨hlen, _, ep, vals_refs ts', he'⟩, rfl, q _ _ k2 k3 (I.hok.fresh (Nat.le_succ _))⟩
theorem mt_valuesT : MtR X "dict.values" rValuesT := by
  intro pins s σ H x xs v us Q I rx rxs h
  obtain ⟨a, kvs, rfl, rfl, ha, q⟩ := h
  cases rx
  cases rxs
  obtain ⟨z, hd, xs', rel, o, es, ep, ho, hx, hdat, _⟩ := dt_of I.hok ha
  have raw : s.heap.DictRaw a es ep := ⟨o, ho, hx, hdat⟩
  refine call_meetsIn PySem.F.slot_dict_values raw.typeIs PySem.F.entry_dict_values (PySem.F.args_dict_values_1 _) (meets_dict_values_raw a hd) ⟨⟨es, ep, raw⟩, ?_⟩
  have hf : H s.heap.objs.size = none := I.hok.fresh (Nat.le_refl _)
  exact ⟨.ref s.heap.objs.size, upd H s.heap.objs.size (valsO s.heap.objs.size a), I.laid (t' := s.toks) (fun b u e => Heap.get?_push_of_some _ e) (Nat.le_refl _) (valsO_ok (Heap.get?_push_size _ rfl)), rfl, q _ hf⟩
theorem kt_vals {H : Hp} : ∀ {kvs : List (List L2.Key × V)} {xs : List (List L2.Key × Addr × Value)}, KT H kvs xs → Vals (kvs.map (·.2)) (xs.map (·.2.2))
  | _, _, .nil => .nil
  | _, _, .cons h t => .cons h.2.2 (kt_vals t)
theorem cr_sortedVals (hc : X.calm = true) : CallR X (.builtin "sorted") (rSortVals X.K) := by
  intro pins s σ H vs us Q I r h
  obtain ⟨p, a, kvs, ts, k, m, rfl, hp, ha, ek, hm, hx, q⟩ := h
  obtain rfl := Vals.ref1 r
  have view : s.heap.IsValuesView p a := (show ObjOk X.prog X.w H s.heap p (valsO p a) from I.hok p _ hp).1
  obtain ⟨z, hd, xs', rel, dd⟩ := dt_of I.hok ha
  obtain ⟨es, ep, raw, hes, hat⟩ := dd.raw
  have hh : X.A.handled = none := I.ok.hd hc
  have lk : kvs.length = xs'.length := Paired.length rel
  have rv := kt_vals rel
  rw [ek] at rv
  have ev := refs_vals rv
  have lt : ts.length = xs'.length := by
    have e := congrArg List.length ev
    rw [List.length_map, List.length_map] at e
    exact e.symm
  have hz : xs'.length ≤ sizeLine := by rw [← lk]; exact z
  have hw := wds_heap I hx
  refine Calls.call_function_entry kind_sorted plain_sorted entry_sorted (args_sorted1 _) ?_
  unfold Builtin.«sorted»
  refine wpAny_bind (m := checkCount "sorted" 1 1 _) (wpAny_pure ?_)
  refine wpAny_bind (PySem.W.kdu_collect (A := X.A.in1) (KdlSrc.rawValues (es := es) (ep := ep)) hh ⟨view, raw⟩ (by rw [hes]; exact hz) fun h' tk acc hk hacc => ?_)
  have eacc : acc.toList = ts.map Value.ref := by
    refine List.ext_getElem? fun j => ?_
    by_cases hj : j < es.size
    · have hj2 : j < acc.size := by rw [hacc.1]; exact hj
      obtain ⟨hj3, e⟩ := hacc.2 j acc[j] (Array.getElem?_eq_getElem hj2)
      obtain ⟨y, hy, _, e2, _⟩ := hat j hj
      rw [Array.getElem?_toList, Array.getElem?_eq_getElem hj2, e, e2, ← ev, List.getElem?_map, hy] <;> rfl
    · rw [List.getElem?_eq_none (by rw [Array.length_toList, hacc.1]; omega), List.getElem?_eq_none (by rw [List.length_map]; omega)]
  rw [eacc]
  have hzt : (ts.map Value.ref).length ≤ sizeLine := by rw [List.length_map, lt]; exact hz
  refine wpAny_bind (wpAny_newList ?_ hzt)
  have hob : (h'.push (seqObj "list" (ts.map Value.ref).toArray 0)).get? h'.objs.size = some (seqObj "list" (ts.map Value.ref).toArray 0) := Heap.get?_push_size _ rfl
  have kb : ∀ b o, s.heap.get? b = some o → (h'.push (seqObj "list" (ts.map Value.ref).toArray 0)).get? b = some o := fun b o e => Heap.get?_push_of_some _ (hk b o e)
  have ne0 : ∀ b o, s.heap.get? b = some o → b ≠ h'.objs.size := fun b o e => Nat.ne_of_lt (Heap.lt_size (hk b o e))
  refine wpAny_bind (wpAny_holding (wpAny_call_entry slot_list_sort ⟨_, hob, rfl⟩ entry_list_sort
    (SrtO.list_sort_ord (ltVk_swo k) hob hzt (fun h2 => wd_sortable (k := fun v => k (adO v)) hm (by omega) (fun v hv => ⟨(hw v hv).1.keeps fun b o e _ => kb b o e, (hw v hv).2⟩) fun o e => ?_) fun out h1 h2 => ⟨_, rfl, ?_⟩) (args_list_sort _)))
  · have e' : some o = some (seqObj "list" (ts.map Value.ref).toArray 0) := e.symm.trans hob
    cases e'
    intro c
    exact absurd (Value.type.inj c) (by decide)
  · obtain ⟨ts', rfl, k2, k3⟩ := wd_out h1 h2
    obtain ⟨ep', he'⟩ := PyProof.Rows.sortedHeap_at (vs := ts.map Value.ref) (out := (ts'.map Value.ref).toArray) hob
    have hlen : (ts'.map V.ref).length ≤ sizeLine := by
      rw [List.length_map, k2.length_eq, lt]
      exact hz
    have kf : ∀ b o, s.heap.get? b = some o → (sortedHeap (h'.push (seqObj "list" (ts.map Value.ref).toArray 0)) h'.objs.size (ts.map Value.ref) (ts'.map Value.ref).toArray).get? b = some o := fun b o e =>
      (PyProof.Rows.sortedHeap_old (ne0 b o e) (Heap.lt_size (kb b o e))).trans (kb b o e)
    have nH : H h'.objs.size = none := by
      cases e : H h'.objs.size with
      | none => rfl
      | some u =>
        obtain ⟨o, ho⟩ := objOk_there (I.hok _ _ e)
        exact absurd rfl (ne0 _ o ho)
    have nS : s.heap.get? h'.objs.size = none := by
      cases e : s.heap.get? h'.objs.size with
      | none => rfl
      | some o => exact absurd rfl (ne0 _ o e)
    exact wpAny_pure ⟨_, rfl, .ref _, upd H h'.objs.size (.lst (ts'.map V.ref)), I.laidN (t' := tk) kf nS nH ⟨hlen, _, ep', vals_refs ts', he'⟩, rfl, q _ _ k2 k3 nH⟩
end
end CH
end

section
set_option Elab.async false
set_option linter.all false
set_option maxRecDepth 100000
set_option maxHeartbeats 4000000
namespace CH
open PySem PySem.Spec PyProof.Rows L2
/-! ### d.setdefault(t, x), the keys tuples -/
def tSetdT (td ty tx : TE) : TE := fun σ H Q => td σ H fun x H1 => ∃ a, x = .ref a ∧ IsD H1 a ∧ ty σ H1 fun y H2 => tx σ H2 fun z H3 => ∃ (kvs : List (List Key × V)) (k : List Key) (b : Addr), H3 a = some (.dT kvs) ∧ y = .ref b ∧ H3 b = some (.tup (k.map kV)) ∧ kvs.length < sizeLine ∧
  (∀ v, valV kvs k = some v → Q v H3) ∧ (valV kvs k = none → Q z (upd H3 a (.dT (putK kvs k z))))
section
variable {X : Cx} {pins : List (Addr × Obj)} {σ : L2.St} {H : Hp} {s : Shared} {a b : Addr} {r : Value} {d : V} {A : Around} {E : Value → Shared → Prop}
theorem t_setd {kvs : List (List Key × V)} {k : List Key} {Q : Value → Shared → Prop} (hu : A.units + 1 < cLine) (I : Inv X pins σ H s) (e : H a = some (.dT kvs)) (eb : H b = some (.tup (k.map kV))) (rd : RelV d r) (hl : kvs.length < sizeLine)
    (h1 : ∀ v, valV kvs k = some v → ∀ (w' : Value) (s' : Shared), Inv X pins σ H s' → RelV v w' → Q w' s') (h2 : valV kvs k = none → ∀ (s' : Shared), Inv X pins σ (upd H a (.dT (putK kvs k d))) s' → Q r s') :
    wpAny (model X.prog X.w) A (call (.builtin "dict.setdefault") [.ref a, .ref b, r]) Q E s := by
  obtain ⟨z, hd, xs, rel, dd⟩ := dt_of I.hok e
  have hz : xs.length ≤ sizeLine := by
    rw [← Paired.length rel]
    exact z
  have hv := rel.val k
  refine call_setdefault_heap (hsz := hz) (tupleKind_room_in1 hu) (key_of I.hok eb) hd dd (fun p hp => ?_) fun hn h' dd' hs => ?_
  · rw [hp] at hv
    cases q0 : valV kvs k with
    | none =>
      rw [q0] at hv
      exact (show False from hv).elim
    | some v0 =>
      rw [q0] at hv
      exact h1 v0 q0 _ _ (I.tok _) hv
  · rw [hn] at hv
    cases q0 : valV kvs k with
    | some v0 =>
      rw [q0] at hv
      exact (show False from hv).elim
    | none =>
      have hl2 : (putK kvs k d).length ≤ sizeLine := by
        have := length_putK kvs k d
        omega
      refine h2 q0 _ ?_
      obtain ⟨o, es, ep, ho, c2, c3, c4, _, c5⟩ := dd'
      refine d_write I (by rw [e]; exact True.intro) hs ⟨o, ho⟩ ⟨hl2, hd, _, (rel.put k eb rd).keeps fun c ys ec => ?_, o, es, ep, ho, c2, c3, c4, c5⟩
      rw [upd_ne (ne_of ec e (fun z => nomatch z))]
      exact ec
variable {o e f : Expr} {td ty tx : TE} {apos cpos : Pos}
theorem pe_setdT (hu : X.A.units + 1 < cLine) (ho : PE X o td) (he : PE X e ty) (hf : PE X f tx) (m : M2 X o "setdefault" apos e f cpos) : PE X (.Call (.Attribute o "setdefault" apos) [e, f] [] cpos) (tSetdT td ty tx) := by
  refine ⟨fun pins s σ H Q I h => ?_⟩
  refine wpAny_Call_method m.base m.few m.line PySem.F.plainAttrs_dict PySem.F.slot_dict_setdefault PySem.F.type_dict_setdefault (thn (ho.run pins s σ H _ I h) fun u s1 hx => ?_)
  obtain ⟨x, H1, I1, rx, a, rfl, d, q1⟩ := hx
  obtain rfl : u = Value.ref a := rx
  obtain ⟨t1, t2, _⟩ := isD_at I1 d
  refine ⟨t1, t2, ?_⟩
  rw [m.trees]
  refine Calls.callWith_builtin rfl (Calls.evalArgs_plain (Calls.spliced_cons (thn (he.run pins s1 σ H1 _ I1 q1) fun iv s2 hy => ?_)))
  obtain ⟨y, H2, I2, ry, q2⟩ := hy
  refine Calls.spliced_cons (thn (hf.run pins s2 σ H2 _ I2 q2) fun fv s3 hz => Calls.spliced_nil ?_)
  obtain ⟨z, H3, I3, rz, kvs, k, b, ea, rfl, eb, hl, q3, q4⟩ := hz
  obtain rfl : iv = Value.ref b := ry
  exact t_setd hu I3 ea eb rz hl (fun v hv w' s4 I4 rw' => ⟨v, _, I4, rw', q3 v hv⟩) fun hn s4 I4 => ⟨z, _, I4, rz, q4 hn⟩
/-! ### products of great numbers: together less than a hundred million bits -/
def CMulH (i j : Int) : Prop := i.natAbs.log2 + j.natAbs.log2 < 100000000
theorem CMulH.ok {i j : Int} (h : CMulH i j) : IntMulOk i j := by
  have bits : ∀ x : Int, Builtin.Int.intBits x ≤ x.natAbs.log2 + 1 := fun x => by
    unfold Builtin.Int.intBits
    split <;> omega
  have b1 := bits i
  have b2 := bits j
  have hh : i.natAbs.log2 + j.natAbs.log2 < 100000000 := h
  have line : bitsLine = 134217728 := by decide
  unfold IntMulOk
  intro z
  have big := (Bool.and_eq_true_iff.mp z).2
  unfold Builtin.Int.intTooBig at big
  have big2 := of_decide_eq_true big
  rw [line] at big2
  omega
theorem op_mulH : OpR X (binaryOp .Mult) (rI CMulH fun i j => .int (i * j)) := opI fun _ _ _ _ _ _ _ hc q => mul_int q hc.ok
theorem huge_mul {i j : Int} {a b : Nat} (ha : i.natAbs < 2 ^ a) (hb : j.natAbs < 2 ^ b) (h0 : 0 < a) (h1 : 0 < b) (h : a + b ≤ 100000000) : CMulH i j := by
  have x := PySem.Flt.log2_lt_of h0 ha
  have y := PySem.Flt.log2_lt_of h1 hb
  unfold CMulH
  omega
end
end CH
end

section
set_option Elab.async false
set_option linter.all false
set_option maxRecDepth 100000
set_option maxHeartbeats 4000000
namespace CH
open PySem PySem.Spec PyProof.Rows L2
open GxR (TabB TabG Tabbed)
/-! ### any, all of a generator expression over a tuple or a list -/
/-- the generator expression's own scope; captured names are cells of the def -/
structure GnS (sc scope : Scope) (x : Str) : Prop where
  kind : scope.kind = .function
  co : scope.isCoroutine = false
  cell : ∀ y ∈ scope.names, y.2 ≠ .cell
  dot : scope.names.lookup (".0" : Str) = some NameKind.local
  loc : scope.names.lookup x = some .local
  free : ∀ y ∈ scope.names, y.2 = .free → sc.names.lookup y.1 = some .cell ∨ sc.names.lookup y.1 = some .free
def gnSB (sc scope : Scope) (x : Str) : Bool :=
  decide (scope.kind = .function) && (!scope.isCoroutine && ((scope.names.all fun y => !decide (y.2 = .cell)) && (decide (scope.names.lookup (".0" : Str) = some NameKind.local) && (decide (scope.names.lookup x = some .local) &&
    scope.names.all fun y => !decide (y.2 = .free) || (decide (sc.names.lookup y.1 = some .cell) || decide (sc.names.lookup y.1 = some .free))))))
theorem gnS_by {sc scope : Scope} {x : Str} (h : gnSB sc scope x = true) : GnS sc scope x := by
  unfold gnSB at h
  simp only [Bool.and_eq_true, Bool.or_eq_true, Bool.not_eq_true', decide_eq_true_eq, decide_eq_false_iff_not, List.all_eq_true] at h
  obtain ⟨h1, h2, h3, h4, h5, h6⟩ := h
  refine ⟨h1, h2, fun y hy => h3 y hy, h4, h5, fun y hy e => ?_⟩
  rcases h6 y hy with z | z
  · exact absurd e z
  · exact z
theorem GnS.has {X : Cx} {scope : Scope} {x : Str} (S : GnS X.env.scope scope x) (ok : X.Ok) : ∀ y ∈ scope.names, y.2 = .free → ∃ c, X.env.cells.lookup y.1 = some c := fun y hy e => by
  rcases S.free y hy e with k | k
  · exact ok.has _ (.inl k)
  · exact ok.has _ (.inr k)
/-- a captured name's cell, in the generator's frame -/
theorem clo_look {cells : List (Str × Addr)} {names : List (Str × NameKind)} {y : Str} {c : Addr} (hy : names.lookup y = some .free) (hc : cells.lookup y = some c) : (cloFrom cells names []).lookup y = some c := by
  obtain ⟨c', e'⟩ := mem_lookup (cloFrom_has (cells := cells) (acc := []) (PySem.mem_of_lookup hy))
  rcases cloFrom_mem (PySem.mem_of_lookup e') with m | ⟨_, rfl⟩
  · exact absurd m (by simp)
  · rw [e', hc] <;> rfl
/-- the element's answers pb over the items its, wherever the objects of h (but the table at P) stand -/
def EltG (X : Cx) (scope : Scope) (x : Str) (elt : Expr) (its : List Value) (pb : Nat → Bool) (h : Heap) (P : Addr) : Prop :=
  ∀ (cenv : Env) (A' : Around) (E' : Value → Shared → Prop) (i : Nat) (v : Value) (s₂ : Shared) (m₂ : Str → Option Value), A'.handled = none → cenv.scope = scope → cenv.cells = cloFrom X.env.cells scope.names [] →
    its[i]? = some v → s₂.heap.Ns cenv.locals m₂ → m₂ x = some v → (∀ b o, b ≠ P → h.get? b = some o → s₂.heap.get? b = some o) →
    wpAny (model X.prog X.w) A' (eval elt cenv) (fun y s₃ => y = .bool (pb i) ∧ Keeps s₂ s₃) E' s₂
section
variable {X : Cx} {pins : List (Addr × Obj)} {σ : L2.St} {H : Hp} {s : Shared}
theorem keeps_id (s : Shared) : Keeps s s := ⟨s.heap, s.toks, rfl, fun _ _ e => e⟩
theorem all_passing (n : Nat) : passing (fun _ => true) n 0 = List.range n := by
  unfold passing
  simp
/-- the generator g over n items, ready to be walked in the state s5; H1: what was held before -/
def GReady (X : Cx) (pins : List (Addr × Obj)) (σ : L2.St) (H1 : Hp) (P : Addr) (n : Nat) (pb : Nat → Bool) (g : Addr) (s5 : Shared) : Prop :=
  ∃ (fp wr : List Addr) (G : Array GenState → Array GenState → Prop) (F : Nat → Value → Prop) (Sx : Nat → Shared → Prop),
    WalksS X.prog X.w X.A.in1 g fp wr G n F Sx ∧ Sx 0 s5 ∧ (∀ j y, F j y → y = .bool (pb j)) ∧
    ∀ s', Moved wr G s5 s' → ∃ H2, Tabbed P H1 H2 ∧ Inv X pins σ H2 s'
/-- what the walked thing gives: an iterator oI pushed on the heap, its walk -/
def GSrc (X : Cx) (s1 : Shared) (xv : Value) (its : List Value) : Prop :=
  ∃ (oI : Obj) (Sx : Nat → Heap → Prop) (a : Addr), a < s1.heap.objs.size ∧ (∀ vs, s1.heap.get? a ≠ some { cls := .none, data := .fields vs }) ∧
    (∀ (Q : Value → Shared → Prop) (E : Value → Shared → Prop), Q (.ref s1.heap.objs.size) { s1 with heap := s1.heap.push oI } → wpAny (model X.prog X.w) X.A (pyIter xv) Q E s1) ∧
    (∀ A' : Around, A'.handled = none → Walks X.prog X.w A' s1.heap.objs.size [s1.heap.objs.size, a] [s1.heap.objs.size] its.length (fun i v => its[i]? = some v) Sx) ∧ Sx 0 (s1.heap.push oI)
theorem gsrc_tup {s1 : Shared} {a : Addr} {its : List Value} (ht : s1.heap.IsTuple a its.toArray) : GSrc X s1 (.ref a) its := by
  have hlt : a < s1.heap.objs.size := let ⟨_, ho, _⟩ := ht; Heap.lt_size ho
  refine ⟨_, fun i h => h.IsTupleIter s1.heap.objs.size a i ∧ h.IsTuple a its.toArray, a, hlt, fun vs z => ?_, fun Q E q => wpAny_pyIter_tuple ht q, fun A' hA => ?_, ⟨⟨_, Heap.get?_push_size _ rfl, rfl, rfl⟩, ht.push _⟩⟩
  · obtain ⟨o, ho, hc, _⟩ := ht
    rw [ho] at z
    cases z
    cases hc
  have W := Walks.tuple (prog := X.prog) (w := X.w) (A := A') hA s1.heap.objs.size a (Nat.ne_of_lt hlt) its.toArray
  simpa using W
theorem gsrc_lst {s1 : Shared} {a : Addr} {its : List Value} (ht : s1.heap.IsList a its.toArray) : GSrc X s1 (.ref a) its := by
  have hlt : a < s1.heap.objs.size := let ⟨_, ho, _⟩ := ht; Heap.lt_size ho
  refine ⟨_, fun i h => h.IsListIter s1.heap.objs.size a i ∧ h.IsList a its.toArray, a, hlt, fun vs z => ?_, fun Q E q => wpAny_pyIter_list ht q, fun A' hA => ?_, ⟨⟨_, Heap.get?_push_size _ rfl, rfl, rfl⟩, ht.push _⟩⟩
  · obtain ⟨o, ho, hc, _⟩ := ht
    rw [ho] at z
    cases z
    cases hc
  have W := Walks.list (prog := X.prog) (w := X.w) (A := A') hA s1.heap.objs.size a (Nat.ne_of_lt hlt) its.toArray
  simpa using W
/-- the expression is evaluated: a generator stands ready -/
theorem gen_made {c P : Addr} {elt iter : Expr} {x : Str} {px gpos : Pos} {scope : Scope} {te : TE} {k : Nat} {Q' : Value → Shared → Prop} {R : V → Hp → Prop}
    (hr : Room k X.A) (TB : TabB X.base X.mg c P) (hcode : X.env.code = .ref c) (S : GnS X.env.scope scope x) (hi : PE X iter te)
    (hs : ∀ v, genFold iter X.env v = pure v) (I : Inv X pins σ H s) (h : te σ H R)
    (hQ : ∀ (v : V) (xv : Value) (H1 : Hp) (s1 : Shared), Inv X pins σ H1 s1 → RelV v xv → R v H1 → TabG H1 P ∧ ∃ (its : List Value) (pb : Nat → Bool), GSrc X s1 xv its ∧ EltG X scope x elt its pb s1.heap P ∧
      ∀ g s5, GReady X pins σ H1 P its.length pb g s5 → Q' (.ref g) s5) :
    wpAny (model X.prog X.w) X.A (eval (.GeneratorExp elt [⟨.Name x px, iter, [], 0⟩] scope gpos) X.env) Q' X.xe s := by
  refine wpAny_GeneratorExp_walksQ hr.hd S.co (closure_ok (S.has I.ok)) S.cell S.dot S.loc S.kind (by have := hr.dp; omega) ?_ hs
  refine thn (hi.run pins s σ H _ I h) fun xv s1 hv => ?_
  obtain ⟨v, H1, I1, r1, q1⟩ := hv
  obtain ⟨⟨ps, hP, ht⟩, its, pb, ⟨oI, Sx, a, hal, haP, hit, W, st0⟩, hel, hQ⟩ := hQ v xv H1 s1 I1 r1 q1
  refine hit _ _ ?_
  have hPs : s1.heap.get? P = some { cls := .none, data := .fields ps } := I1.hok P _ hP
  have hPlt : P < s1.heap.objs.size := Heap.lt_size hPs
  have hP2 : (s1.heap.push oI).get? P = some { cls := .none, data := .fields ps } := Heap.get?_push_of_some _ hPs
  have cd : PySem.W.CodeHd (s1.heap.push oI) c P := TB.code.keeps fun b u e => Heap.get?_push_of_some _ (I1.bk b u e)
  have lim2 : (s1.heap.push oI).NoLimit := I1.nolimit.push oI
  have sz2 : (s1.heap.push oI).objs.size = s1.heap.objs.size + 1 := Heap.size_push ..
  -- behind the code object, found or made
  have rest : ∀ (code : Value) (h3 : Heap) (tk : Nat) (ps' : Array Value), Heap.ExtBut P (s1.heap.push oI) h3 → (s1.heap.push oI).objs.size ≤ h3.objs.size → h3.get? P = some { cls := .none, data := .fields ps' } → (∃ more, ps' = ps ++ more) → TriplesOk ps'.toList →
      wpAny (model X.prog X.w) X.A (builtinsFor X.env.globals X.env.builtins) (fun bi s₄ =>
        ∃ Ia fp wr n₀ Pf St₀ pz F, Value.ref s1.heap.objs.size = .ref Ia ∧ (∀ A' : Around, A'.handled = none → Walks X.prog X.w A' Ia fp wr n₀ Pf St₀) ∧ St₀ 0 s₄.heap ∧ (∀ b ∈ fp, b < s₄.heap.objs.size) ∧ s₄.heap.NoLimit ∧ cStatics ∉ wr ∧
          (∀ href : Heap, (∀ b o, s₄.heap.get? b = some o → href.get? b = some o) →
            QuietGen X.prog X.w (genEnv scope (cloFrom X.env.cells scope.names []) s₄.heap.objs.size code bi X.env) x [] elt (List.range s₄.heap.objs.size) wr Pf pz F href) ∧
          (∀ a h₅ tk gs, gs.bare = true → s₄.heap.objs.size < a → h₅.objs.size = a + 1 → (∀ b o, s₄.heap.get? b = some o → h₅.get? b = some o) →
            WalksS X.prog X.w X.A.in4 a (a :: s₄.heap.objs.size :: List.range s₄.heap.objs.size) (s₄.heap.objs.size :: wr) (GenOnlyQ s₄.gens.size) (passing pz n₀ 0).length
              (fun j y => ∃ i, (passing pz n₀ 0)[j]? = some i ∧ F i y) (GenAt X.prog X.w X.A.in4 a s₄.gens.size s₄.heap.objs.size (List.range s₄.heap.objs.size) wr pz n₀ F) →
            GenAt X.prog X.w X.A.in4 a s₄.gens.size s₄.heap.objs.size (List.range s₄.heap.objs.size) wr pz n₀ F 0 { s₄ with gens := s₄.gens.push gs, toks := tk, heap := h₅ } →
            Q' (.ref a) { s₄ with gens := s₄.gens.push gs, toks := tk, heap := h₅ })) X.xe { s1 with heap := h3, toks := tk } := by
    intro code h3 tk ps' hx hsz hP3 hmore ht3
    obtain ⟨bm, ob, e1, e2, e3, e4, e5, e6, e7, e8⟩ := TB.bm
    have hcP : cStatics ≠ P := fun e => by
      obtain ⟨_, hns, _⟩ := I1.nolimit
      obtain ⟨o', es, ep, ho, hd, _⟩ := hns
      rw [e, hPs] at ho
      cases ho
      cases hd
    have h3s : s1.heap.objs.size < h3.objs.size := by
      rw [sz2] at hsz
      exact hsz
    have hcl : cStatics < s1.heap.objs.size := let ⟨_, hns, _⟩ := I1.nolimit; hns.lt
    have keep3 : ∀ b u, b ≠ P → s1.heap.get? b = some u → h3.get? b = some u := fun b u hb e => hx b u hb (Heap.get?_push_of_some _ e)
    refine wpAny_builtinsFor (m := X.mg) (by rw [I1.ok.glob]; exact ((I1.mod.glob.keeps I1.bk).push oI).extBut hx TB.gP) e1 e2 (keep3 _ _ e4 (I1.bk _ _ e5)) e6 e7 e8 ?_
    refine ⟨s1.heap.objs.size, [s1.heap.objs.size, a], [s1.heap.objs.size], its.length, fun i v => its[i]? = some v, Sx, (fun _ => true), (fun i y => i < its.length ∧ y = .bool (pb i)), rfl, W, ?_, fun b hb => ?_, lim2.extBut hx hcP, fun z => ?_, fun href hhref => ?_, ?_⟩
    · refine (W X.A hr.hd).frame _ _ _ st0 fun b hb u e => hx b u (fun z => ?_) e
      rcases List.mem_cons.mp hb with z2 | z2
      · exact Nat.ne_of_lt hPlt (z.symm.trans z2)
      · -- the table is no list and no tuple: the walked thing stands elsewhere
        exact haP ps (by rw [← List.mem_singleton.mp z2, z]; exact hPs)
    · rcases List.mem_cons.mp hb with z | z
      · rw [z]
        exact h3s
      · rw [List.mem_singleton.mp z]
        exact Nat.lt_trans hal h3s
    · exact Nat.ne_of_lt hcl (List.mem_singleton.mp z)
    · have back : ∀ (s₂ : Shared), (∀ b ∈ List.range h3.objs.size, b ∉ [s1.heap.objs.size] → ∀ o, href.get? b = some o → s₂.heap.get? b = some o) → ∀ b o, b ≠ P → s1.heap.get? b = some o → s₂.heap.get? b = some o := fun s₂ hk b o hb e => by
        have hlt := Heap.lt_size e
        refine hk b (List.mem_range.mpr (Nat.lt_trans hlt h3s)) (fun z => Nat.ne_of_lt hlt (List.mem_singleton.mp z)) o (hhref b o (keep3 b o hb e))
      refine ⟨fun A' E' i v s₂ m₂ hA hPv hn hm hk => ?_, fun A' E' i v s₂ m₂ hA hPv hp hn hm hk => ?_⟩
      · simp only [List.forIn_nil]
        exact wpAny_pure ⟨rfl, keeps_id _⟩
      · exact wpAny_mono (hel _ A' E' i v s₂ m₂ hA rfl rfl hPv hn hm (back s₂ hk)) (fun y s3 r => ⟨⟨(List.getElem?_eq_some_iff.mp hPv).1, r.1⟩, r.2⟩) fun _ _ e => e
    · intro g h5 tk5 gs hgb hag hsz5 hk5 W5 hat
      simp only [all_passing, List.length_range] at W5
      refine hQ g _ ⟨_, _, _, _, _, W5.in4_1, hat, fun j y hy => ?_, fun s' hm => ?_⟩
      · obtain ⟨i, hij, _, rfl⟩ := hy
        obtain ⟨hj, ej⟩ := List.getElem?_eq_some_iff.mp hij
        rw [List.getElem_range] at ej
        rw [ej]
      · obtain ⟨more, em⟩ := hmore
        have nwr : ∀ b u, s1.heap.get? b = some u → b ∉ h3.objs.size :: [s1.heap.objs.size] := fun b u e hb => by
          have hl := Heap.lt_size e
          rcases List.mem_cons.mp hb with z | z
          · rw [z] at hl
            have h9 : (h3.objs.size : Nat) < s1.heap.objs.size := hl
            omega
          · rw [List.mem_singleton.mp z] at hl
            exact Nat.lt_irrefl _ hl
        have J := GxR.inv_tab (more := more) (h' := s'.heap) (g' := s'.gens) (d' := s'.drawn) (t' := s'.toks) I1 hP (fun b u hb e => hm.heap b u (nwr b u e) (hk5 b u (keep3 b u hb e)))
          (by rw [← em]; exact hm.heap P _ (nwr P _ hPs) (hk5 P _ hP3)) (AllBare.movedS (I1.bare.push hgb) hm)
        rw [GxR.sh_eta s1 s' hm.os] at J
        exact ⟨upd H1 P (.tbl (ps ++ more)), ⟨⟨ps ++ more, upd_same, by rw [← em]; exact ht3⟩, fun b hb => upd_ne hb⟩, J⟩
  refine ⟨lim2, ?_⟩
  cases hf : codeAmong gpos ps.toList with
  | none =>
    refine wpAny_genexprCodeX hcode (cd.code hP2 ht) (cd.tab hP2) hf fun c' h' tk hx hge hlt hco' _ htab' _ => ?_
    obtain ⟨o1, vs, f1, tf, fl, tg, inF, tx, tt, op, _, _, _, _, _, _, _, _, _, htr, _⟩ := hco'
    exact rest _ h' tk _ hx (Nat.le_trans hge (Nat.le_of_lt hlt)) htab'.2 ⟨_, rfl⟩ htr
  | some cv =>
    refine wpAny_genexprCode_hit hcode (cd.code hP2 ht) hf ?_
    exact rest cv (s1.heap.push oI) s1.toks ps (Heap.ExtBut.refl _ _) (Nat.le_refl _) hP2 ⟨#[], by simp⟩ ht

/-- any(..), all(..) of such a generator: what is asked is made in R -/
def tGen (P : Addr) (K : PySem.W.Frag) (te : TE) (AN : List Bool → Bool) (AS : List V → L2.St → Hp → List Bool → Prop) : TE := fun σ H Q => te σ H fun v H1 => TabG H1 P ∧ ∃ (a : Addr) (xs : List V) (bs : List Bool), v = .ref a ∧ (SqL K H1 a xs ∨ SqT K H1 a xs) ∧ AS xs σ H1 bs ∧ bs.length = xs.length ∧ ∀ H2, Tabbed P H1 H2 → Q (.bl (AN bs)) H2
/-- the element as it is read: from what stands in the frame and the heap, over the items xs, the answers bs -/
def EltR (X : Cx) (scope : Scope) (x : Str) (elt : Expr) (AS : List V → L2.St → Hp → List Bool → Prop) : Prop :=
  ∀ (pins : List (Addr × Obj)) (σ : L2.St) (H : Hp) (s : Shared) (xs : List V) (its : List Value) (bs : List Bool) (P : Addr), Inv X pins σ H s → Vals xs its → AS xs σ H bs → (∃ ps, H P = some (.tbl ps)) → bs.length = xs.length → EltG X scope x elt its (fun i => bs.getD i false) s.heap P
theorem range_all (bs : List Bool) : (List.range bs.length).all (fun i => bs.getD i false) = bs.all id := by
  rw [Bool.eq_iff_iff, List.all_eq_true, List.all_eq_true]
  constructor
  · intro h b hb
    obtain ⟨j, hj, e⟩ := List.getElem_of_mem hb
    have q := h j (List.mem_range.mpr hj)
    rw [List.getD_eq_getElem?_getD, List.getElem?_eq_getElem hj, e] at q
    exact q
  · intro h j hj
    have hj' := List.mem_range.mp hj
    rw [List.getD_eq_getElem?_getD, List.getElem?_eq_getElem hj']
    exact h _ (List.getElem_mem hj')
theorem range_any (bs : List Bool) : (List.range bs.length).any (fun i => bs.getD i false) = bs.any id := by
  rw [Bool.eq_iff_iff, List.any_eq_true, List.any_eq_true]
  constructor
  · intro ⟨j, hj, h⟩
    have hj' := List.mem_range.mp hj
    rw [List.getD_eq_getElem?_getD, List.getElem?_eq_getElem hj'] at h
    exact ⟨bs[j], List.getElem_mem hj', h⟩
  · intro ⟨b, hb, h⟩
    obtain ⟨j, hj, e⟩ := List.getElem_of_mem hb
    refine ⟨j, List.mem_range.mpr hj, ?_⟩
    rw [List.getD_eq_getElem?_getD, List.getElem?_eq_getElem hj, e]
    exact h
theorem gen_read {c P : Addr} {elt iter : Expr} {x : Str} {px gpos : Pos} {scope : Scope} {te : TE} {k : Nat} {AN : List Bool → Bool} {AS : List V → L2.St → Hp → List Bool → Prop} {Q : VK} {Q' : Value → Shared → Prop}
    (hr : Room k X.A) (TB : TabB X.base X.mg c P) (hcode : X.env.code = .ref c) (S : GnS X.env.scope scope x) (hi : PE X iter te) (hel : EltR X scope x elt AS)
    (hs : ∀ v, genFold iter X.env v = pure v) (I : Inv X pins σ H s) (h : tGen P X.K te AN AS σ H Q)
    (hQ : ∀ (bs : List Bool) (H1 : Hp) g s5, (∀ H2, Tabbed P H1 H2 → Q (.bl (AN bs)) H2) → GReady X pins σ H1 P bs.length (fun i => bs.getD i false) g s5 → Q' (.ref g) s5) :
    wpAny (model X.prog X.w) X.A (eval (.GeneratorExp elt [⟨.Name x px, iter, [], 0⟩] scope gpos) X.env) Q' X.xe s := by
  refine gen_made hr TB hcode S hi hs I h fun v xv H1 s1 I1 rv q => ?_
  obtain ⟨tg, a, xs, bs, rfl, hq, ha, hl, q⟩ := q
  obtain rfl : xv = Value.ref a := rv
  have tg' := tg
  obtain ⟨ps, hP, _⟩ := tg'
  refine ⟨tg, ?_⟩
  rcases hq with hq | hq
  · obtain ⟨its, r, pl, _⟩ := I1.list hq
    refine ⟨its, _, gsrc_lst pl.isList, hel pins σ H1 s1 xs its bs P I1 r ha ⟨ps, hP⟩ hl, fun g s5 gr => hQ bs H1 g s5 q ?_⟩
    rw [hl, r.length]
    exact gr
  · obtain ⟨its, r, pl, _⟩ := I1.tuple hq
    refine ⟨its, _, gsrc_tup (show s1.heap.IsTuple a its.toArray from pl), hel pins σ H1 s1 xs its bs P I1 r ha ⟨ps, hP⟩ hl, fun g s5 gr => hQ bs H1 g s5 q ?_⟩
    rw [hl, r.length]
    exact gr
theorem gtruth {A : Around} {F : Nat → Value → Prop} {bs : List Bool} (h : ∀ j y, F j y → y = .bool (bs.getD j false)) : TruthOf X.prog X.w A F (fun i => bs.getD i false) := fun j y sj Qj Ej hy hq => by
  rw [h j y hy]
  exact wpAny_truthy_bool hq
theorem pe_allG {c P : Addr} {elt iter : Expr} {x : Str} {px p pos gpos : Pos} {scope : Scope} {te : TE} {k : Nat} {AS : List V → L2.St → Hp → List Bool → Prop}
    (hr : Room k X.A) (hg : Gl X "all") (hm : X.mg "all" = none) (hb : bootBuiltins "all" = some (.builtin "all")) (TB : TabB X.base X.mg c P) (hcode : X.env.code = .ref c) (S : GnS X.env.scope scope x) (hi : PE X iter te) (hel : EltR X scope x elt AS)
    (hs : ∀ v, genFold iter X.env v = pure v)
    (he : starEach [.GeneratorExp elt [⟨.Name x px, iter, [], 0⟩] scope gpos] X.env = (false, eval (.GeneratorExp elt [⟨.Name x px, iter, [], 0⟩] scope gpos) X.env) :: starEach [] X.env := by rfl) :
    PE X (.Call (.Name "all" p) [.GeneratorExp elt [⟨.Name x px, iter, [], 0⟩] scope gpos] [] pos) (tGen P X.K te (fun bs => bs.all id) AS) := by
  refine ⟨fun pins s σ H Q I h => ?_⟩
  refine wpAny_Call_Name_kw (ld_blt I hg hm hb ?_)
  refine PyProof.Rows.callWith_builtin1 ?_ he (by rfl)
  rw [he]
  show wpAny _ _ (spliced ((false, eval (.GeneratorExp elt [⟨.Name x px, iter, [], 0⟩] scope gpos) X.env) :: backTo pos (starEach [] X.env))) _ _ s
  refine Calls.spliced_cons (gen_read hr TB hcode S hi hel hs I h fun bs H1 g s5 hR hG => ?_)
  obtain ⟨fp, wr, G, F, Sx, W, hst, htr, hI⟩ := hG
  refine Calls.spliced_nil ?_
  refine call_all_walkS (W.self 0 _ _ _ hst ⟨g, fp, wr, G, _, F, Sx, _, rfl, W, hst, gtruth htr, fun s' hmv => ?_⟩)
  obtain ⟨H2, hT, J⟩ := hI s' hmv
  refine ⟨.bl _, H2, J, rfl, ?_⟩
  rw [range_all bs]
  exact hR H2 hT
theorem pe_anyG {c P : Addr} {elt iter : Expr} {x : Str} {px p pos gpos : Pos} {scope : Scope} {te : TE} {k : Nat} {AS : List V → L2.St → Hp → List Bool → Prop}
    (hr : Room k X.A) (hg : Gl X "any") (hm : X.mg "any" = none) (hb : bootBuiltins "any" = some (.builtin "any")) (TB : TabB X.base X.mg c P) (hcode : X.env.code = .ref c) (S : GnS X.env.scope scope x) (hi : PE X iter te) (hel : EltR X scope x elt AS)
    (hs : ∀ v, genFold iter X.env v = pure v)
    (he : starEach [.GeneratorExp elt [⟨.Name x px, iter, [], 0⟩] scope gpos] X.env = (false, eval (.GeneratorExp elt [⟨.Name x px, iter, [], 0⟩] scope gpos) X.env) :: starEach [] X.env := by rfl) :
    PE X (.Call (.Name "any" p) [.GeneratorExp elt [⟨.Name x px, iter, [], 0⟩] scope gpos] [] pos) (tGen P X.K te (fun bs => bs.any id) AS) := by
  refine ⟨fun pins s σ H Q I h => ?_⟩
  refine wpAny_Call_Name_kw (ld_blt I hg hm hb ?_)
  refine PyProof.Rows.callWith_builtin1 ?_ he (by rfl)
  rw [he]
  show wpAny _ _ (spliced ((false, eval (.GeneratorExp elt [⟨.Name x px, iter, [], 0⟩] scope gpos) X.env) :: backTo pos (starEach [] X.env))) _ _ s
  refine Calls.spliced_cons (gen_read hr TB hcode S hi hel hs I h fun bs H1 g s5 hR hG => ?_)
  obtain ⟨fp, wr, G, F, Sx, W, hst, htr, hI⟩ := hG
  refine Calls.spliced_nil ?_
  refine call_any_walkS (W.self 0 _ _ _ hst ⟨g, fp, wr, G, _, F, Sx, _, rfl, W, hst, gtruth htr, fun s' hmv => ?_⟩)
  obtain ⟨H2, hT, J⟩ := hI s' hmv
  refine ⟨.bl _, H2, J, rfl, ?_⟩
  rw [range_any bs]
  exact hR H2 hT
/-- the element x in y, y a captured name (slot j) -/
def AsIn (K : PySem.W.Frag) (j : Nat) : List V → L2.St → Hp → List Bool → Prop := fun xs σ H bs => ∃ (b : Addr) (ys : List V), σ[j]? = some (some (.ref b)) ∧ (SqL K H b ys ∨ SqT K H b ys) ∧ xs.all flatV = true ∧ ys.all flatV = true ∧ bs = xs.map fun x => inV x ys
theorem elt_in {scope : Scope} {x y : Str} {j : Nat} {p1 p2 p3 : Pos} (S : GnS X.env.scope scope x) (hN : X.N[j]? = some y) (hy : scope.names.lookup y = some .free) (hc : X.env.scope.names.lookup y = some .cell)
    (hd : (x == ("__debug__" : Str)) = false := by decide) (hd2 : (y == ("__debug__" : Str)) = false := by decide) (hcd : (y == ("__classdict__" : Str)) = false := by decide) : EltR X scope x (.Compare (.Name x p1) [.In] [.Name y p2] p3) (AsIn X.K j) := by
  intro pins σ H s xs its bs P I rv hA hP hl cenv A' E' i v s₂ m₂ hAh hsc hcl hi hn hm hk
  obtain ⟨b, ys, hj, hq, fx, fy, rfl⟩ := hA
  obtain ⟨ps, hP⟩ := hP
  have hPs : s.heap.get? P = some { cls := .none, data := .fields ps } := I.hok P _ hP
  obtain ⟨mm, _, hloc⟩ := I.loc
  obtain ⟨u, ru, lk⟩ := hloc j y (.ref b) hN hj (.inr (.inl hc))
  obtain rfl : u = Value.ref b := ru
  obtain ⟨c, hcc, hcell⟩ : ∃ c, X.env.cells.lookup y = some c ∧ s.heap.IsCell c (some (.ref b)) := by
    rcases lk with ⟨z, _⟩ | ⟨_, z⟩
    · have z2 : X.env.scope.names.lookup y = some .local := z
      rw [hc] at z2
      cases z2
    · exact z
  have hlook : cenv.cells.lookup y = some c := by rw [hcl]; exact clo_look hy hcc
  have hcell2 : s₂.heap.IsCell c (some (.ref b)) := by
    obtain ⟨o, ho, hd⟩ := hcell
    refine ⟨o, hk c o (fun z => ?_) ho, hd⟩
    rw [z, hPs] at ho
    cases ho
    cases hd
  have hkind : cenv.scope.kind = .function := by rw [hsc]; exact S.kind
  refine wpAny_Compare1 ?_
  refine wpAny_Name (wpAny_loadName_local hkind (show cenv.scope.names.lookup x = some .local by rw [hsc]; exact S.loc) hn hm ?_) hd
  refine wpAny_Name (wpAny_loadName_free hkind (show cenv.scope.names.lookup y = some .free by rw [hsc]; exact hy) hlook hcell2 ?_ hcd) hd2
  -- the item
  obtain ⟨z, hz, rz⟩ : ∃ z, xs[i]? = some z ∧ RelV z v := by
    have hlt : i < its.length := (List.getElem?_eq_some_iff.mp hi).1
    have hlt2 : i < xs.length := by rw [rv.length]; exact hlt
    obtain ⟨w, e1, e2⟩ := rv.get (List.getElem?_eq_getElem hlt2)
    rw [hi] at e1
    cases e1
    exact ⟨_, List.getElem?_eq_getElem hlt2, e2⟩
  have fz : flatV z = true := List.all_eq_true.mp fx z (List.mem_of_getElem? hz)
  have eb : (xs.map fun x => inV x ys).getD i false = inV z ys := by
    rw [List.getD_eq_getElem?_getD, List.getElem?_map, hz] <;> rfl
  rcases hq with hq | hq
  · obtain ⟨js, r, pl, _⟩ := I.list hq
    have pl2 : s₂.heap.IsList b js.toArray := by
      obtain ⟨o, ho, ha, hb⟩ := pl.isList
      exact ⟨o, hk b o (fun z => by rw [z, hPs] at ho; cases ho; cases ha) ho, ha, hb⟩
    refine SeqAt.in_listAt (eqU z) pl2 (fun w hw => mem_eqAt rz fz r fy w (by simpa using hw)) ⟨?_, keeps_id _⟩
    rw [show js.toArray.any (eqU z) = js.any (eqU z) by simp, any_eqU r fy]
    exact congrArg Value.bool eb.symm
  · obtain ⟨js, r, pl, _⟩ := I.tuple hq
    have pl2 : s₂.heap.IsTuple b js.toArray := by
      obtain ⟨o, ho, ha, hb⟩ := (show s.heap.IsTuple b js.toArray from pl)
      exact ⟨o, hk b o (fun z => by rw [z, hPs] at ho; cases ho; cases ha) ho, ha, hb⟩
    refine SeqAt.in_tupleAt (eqU z) pl2 (fun w hw => mem_eqAt rz fz r fy w (by simpa using hw)) ⟨?_, keeps_id _⟩
    rw [show js.toArray.any (eqU z) = js.any (eqU z) by simp, any_eqU r fy]
    exact congrArg Value.bool eb.symm
end
end CH
end

section
set_option Elab.async false
set_option linter.all false
set_option maxRecDepth 100000
set_option maxHeartbeats 4000000
namespace CH
open PySem PySem.Spec PyProof.Rows L2
open GxR (TabB TabG Tabbed)
/-! ### what stays: all but the tables, which stay tables -/
structure Kx (H H' : Hp) : Prop where
  o : ∀ b u, H b = some u → (∀ ps, u ≠ .tbl ps) → H' b = some u
  g : ∀ P, TabG H P → TabG H' P
  f : ∀ b, H' b = none → H b = none
theorem Kx.refl (H : Hp) : Kx H H := ⟨fun _ _ h _ => h, fun _ h => h, fun _ h => h⟩
theorem Kx.trans {H H1 H2 : Hp} (a : Kx H H1) (b : Kx H1 H2) : Kx H H2 := ⟨fun c u h n => b.o c u (a.o c u h n) n, fun P h => b.g P (a.g P h), fun c h => a.f c (b.f c h)⟩
theorem Kx.rd {H H' : Hp} {a : Addr} {u : HO} (k : Kx H H') (n : ∀ ps, u ≠ .tbl ps) (h : Rd H a u) : Rd H' a u := by
  rcases h with h | ⟨o, h⟩
  · exact .inl (k.o _ _ h n)
  · exact .inr ⟨o, k.o _ _ h fun ps z => nomatch z⟩
theorem Kx.l {K : PySem.W.Frag} {H H' : Hp} {a : Addr} {xs : List V} (k : Kx H H') (h : SqL K H a xs) : SqL K H' a xs := by
  rcases h with h | h
  · exact .inl (k.rd (fun ps z => nomatch z) h)
  · exact .inr h
theorem Kx.t {K : PySem.W.Frag} {H H' : Hp} {a : Addr} {xs : List V} (k : Kx H H') (h : SqT K H a xs) : SqT K H' a xs := by
  rcases h with h | h
  · exact .inl (k.rd (fun ps z => nomatch z) h)
  · exact .inr h
theorem Kx.lst {H H' : Hp} {a : Addr} {xs : List V} (k : Kx H H') (h : H a = some (.lst xs)) : H' a = some (.lst xs) := k.o _ _ h fun ps z => nomatch z
theorem Kx.tup {H H' : Hp} {a : Addr} {xs : List V} (k : Kx H H') (h : H a = some (.tup xs)) : H' a = some (.tup xs) := k.o _ _ h fun ps z => nomatch z
theorem Kx.dt {H H' : Hp} {a : Addr} {kvs : List (List Key × V)} (k : Kx H H') (h : H a = some (.dT kvs)) : H' a = some (.dT kvs) := k.o _ _ h fun ps z => nomatch z
/-- a new object -/
theorem Kx.new {H : Hp} {p : Addr} {u : HO} (h : H p = none) : Kx H (upd H p u) := by
  refine ⟨fun b v e _ => ?_, fun P t => ?_, fun b e => ?_⟩
  · rw [upd_ne (ne_of_none e h)]
    exact e
  · obtain ⟨ps, e, t⟩ := t
    exact ⟨ps, by rw [upd_ne (ne_of_none e h)]; exact e, t⟩
  · by_cases hb : b = p
    · rw [hb, upd_same] at e
      cases e
    · rw [upd_ne hb] at e
      exact e
/-- an object that was not there ahead is changed -/
theorem Kx.mut {H H' : Hp} {p : Addr} {u : HO} (k : Kx H H') (h : H p = none) : Kx H (upd H' p u) := by
  refine ⟨fun b v e n => ?_, fun P t => ?_, fun b e => ?_⟩
  · rw [upd_ne (ne_of_none e h)]
    exact k.o b v e n
  · obtain ⟨ps, e, t1⟩ := t
    obtain ⟨qs, e2, t2⟩ := k.g P ⟨ps, e, t1⟩
    exact ⟨qs, by rw [upd_ne (ne_of_none e h)]; exact e2, t2⟩
  · by_cases hb : b = p
    · rw [hb, upd_same] at e
      cases e
    · rw [upd_ne hb] at e
      exact k.f b e
/-- the table at P has grown -/
theorem Kx.tab {H H' : Hp} {P : Addr} (t : TabG H P) (h : Tabbed P H H') : Kx H H' := by
  obtain ⟨ps, e, tr⟩ := t
  refine ⟨fun b u hb n => ?_, fun Q tq => ?_, fun b hb => ?_⟩
  · have nb : b ≠ P := fun z => n ps (Option.some.inj (hb.symm.trans (by rw [z]; exact e)))
    rw [h.2 b nb]
    exact hb
  · by_cases hq : Q = P
    · rw [hq]
      exact h.1
    · obtain ⟨qs, e2, t2⟩ := tq
      exact ⟨qs, by rw [h.2 Q hq]; exact e2, t2⟩
  · by_cases hq : b = P
    · obtain ⟨⟨qs, e2, _⟩, _⟩ := h
      rw [hq, e2] at hb
      cases hb
    · rw [h.2 b hq] at hb
      exact hb
theorem sq_of {K : PySem.W.Frag} {H : Hp} {a : Addr} {xs : List V} (h : H a = some (.lst xs)) : SqL K H a xs := .inl (.inl h)
theorem st_of {K : PySem.W.Frag} {H : Hp} {a : Addr} {xs : List V} (h : H a = some (.tup xs)) : SqT K H a xs := .inl (.inl h)
/-! ### a value's type -/
theorem tyx_tup {K : PySem.W.Frag} {H : Hp} {a : Addr} {xs : List V} (h : SqT K H a xs) : TyX K H (.ref a) (.type "tuple") := by
  rcases h with (h | ⟨o, h⟩) | ⟨o, _, _, h, c, _⟩
  · exact .base (.tup h)
  · exact .fTuple h
  · exact .kTuple h c
theorem tyx_lst {K : PySem.W.Frag} {H : Hp} {a : Addr} {xs : List V} (h : SqL K H a xs) : TyX K H (.ref a) (.type "list") := by
  rcases h with (h | ⟨o, h⟩) | ⟨o, _, _, h, c, _⟩
  · exact .base (.lst h)
  · exact .base (.frz h)
  · exact .kList h c
/-! ### a def of the head, called by its name -/
abbrev FnT (K : PySem.W.Frag) (x : Str) (st : Stmt) (f : Addr) (fd : FuncData) : Prop := FunD K x x (defArgs st) (defBody st) (defScope st) [] [] f fd
section
variable {P : Program} {w : World} {K : PySem.W.Frag} {mg : Str → Option Value} {base : Heap}
/-- what the head says of a def: its object, its place, its code object -/
structure DefT (K : PySem.W.Frag) (mg : Str → Option Value) (x : Str) (st : Stmt) (c : Addr) : Prop where
  ex : ∃ (f : Addr) (fd : FuncData), FnT K x st f fd ∧ mg x = some (.ref f) ∧ ∀ oc od osl fd', K.lookup f = some ⟨oc, od, .func fd', osl⟩ → fd'.code = .ref c
theorem cal_of {x : Str} {st : Stmt} {c : Addr} {N ps : List Str} {k : Nat} {sp : Sp} (D : DefT K mg x st c) (S : FnScope N ps (defScope st))
    (hb : ∀ (kV doc pm : Value) (an : Option Addr) (cdv ct : Value) (us : List Value), us.length = ps.length → bindArgs (PySem.W.fnOf x x (defArgs st) (defBody st) (defScope st) .none kV doc pm an cdv ct) ⟨us, []⟩ = pure (ps.zip us))
    (len : ∀ vs H Q E, sp vs H Q E → vs.length = ps.length)
    (hbody : ∀ (f : Addr) (A : Around) (outer : List Env) (s : Shared) (H : Hp) (vs : List V) (Q : VK) (E : XK), Room k (A.deeper (envOfC x (defScope st) s.heap.objs.size f (.ref c))) → sp vs H Q E →
      ∃ t, PSs (cxOf CX0 P w K mg base N x (defScope st) f (.ref c) A outer s H E).nox (defBody st) t ∧ t { nx := fun _ H' => Q .non H', rt := Q } (start N vs) H) : C8.Cal P w K mg base (k + 1) x sp [] := by
  obtain ⟨f, fd, F, hm, hc⟩ := D.ex
  refine ⟨f, fd, ps, [], ?_, hm, F.kp, FunD.bindsN F hb, .nil⟩
  obtain ⟨oc, od, dV, kV, doc, pm, an, cdv, ct, osl, rfl, lk, hcd, _, _⟩ := F.ex
  obtain rfl : cdv = .ref c := hc _ _ _ _ lk
  refine fn_of lk hcd S len fun A outer s H vs Q E hr hsp => ?_
  obtain ⟨t, h, q⟩ := hbody f A outer s H vs Q E hr hsp
  exact ⟨t, h.nox, q⟩
end
/-! ### small steps -/
theorem iteB {b : Bool} {A B : Prop} (h1 : b = true → A) (h2 : b = false → B) : if b = true then A else B := by
  cases b with
  | true => exact iteT (h1 rfl)
  | false => exact iteF (h2 rfl)
theorem small80 {n : Nat} (h : n ≤ 100000) : n ≤ sizeLine := Nat.le_trans h (by decide)
theorem lt80 {n : Nat} (h : n < 100000) : n < sizeLine := Nat.lt_of_lt_of_le h (by decide)
end CH
end

section
set_option Elab.async false
set_option linter.all false
set_option maxRecDepth 100000
set_option maxHeartbeats 4000000
/-! defs that may raise -/
namespace CH
open PySem PySem.Spec PyProof.Rows L2
section
variable {P : Program} {w : World} {K : PySem.W.Frag} {mg : Str → Option Value} {base : Heap}
/-- a def that may be called by its name, and may raise -/
structure CalX (P : Program) (w : World) (K : PySem.W.Frag) (mg : Str → Option Value) (base : Heap) (k : Nat) (x : Str) (sp : Sp) : Prop where
  ex : ∃ (f : Addr) (fd : FuncData) (ps : List Str), FnOk P w K mg base (L2N.CX P w) k f fd ps sp ∧ mg x = some (.ref f) ∧ PySem.W.keepIn K (.ref f) = true ∧ Binds K fd ps []
theorem calX_of {x : Str} {st : Stmt} {c : Addr} {N ps : List Str} {k : Nat} {sp : Sp} (D : DefT K mg x st c) (S : FnScope N ps (defScope st))
    (hb : ∀ (kV doc pm : Value) (an : Option Addr) (cdv ct : Value) (us : List Value), us.length = ps.length → bindArgs (PySem.W.fnOf x x (defArgs st) (defBody st) (defScope st) .none kV doc pm an cdv ct) ⟨us, []⟩ = pure (ps.zip us))
    (len : ∀ vs H Q E, sp vs H Q E → vs.length = ps.length)
    (hbody : ∀ (f : Addr) (A : Around) (outer : List Env) (s : Shared) (H : Hp) (vs : List V) (Q : VK) (E : XK), Room k (A.deeper (envOfC x (defScope st) s.heap.objs.size f (.ref c))) → sp vs H Q E →
      ∃ t, PSs (cxOf (L2N.CX P w) P w K mg base N x (defScope st) f (.ref c) A outer s H E) (defBody st) t ∧ t { nx := fun _ H' => Q .non H', rt := Q } (start N vs) H) : CalX P w K mg base (k + 1) x sp := by
  obtain ⟨f, fd, F, hm, hc⟩ := D.ex
  refine ⟨f, fd, ps, ?_, hm, F.kp, FunD.bindsN F hb⟩
  obtain ⟨oc, od, dV, kV, doc, pm, an, cdv, ct, osl, rfl, lk, hcd, _, _⟩ := F.ex
  obtain rfl : cdv = .ref c := hc _ _ _ _ lk
  exact fn_of lk hcd S len fun A outer s H vs Q E hr hsp => hbody f A outer s H vs Q E hr hsp
theorem cx_e0 {outer : List Env} {H : Hp} {s s' : Shared} {e : Value} (h : L2N.CX P w outer H s C8.E0 e s') : False := by
  obtain ⟨_, _, _, _, _, _, _, _, _, _, _, _, z⟩ := h
  exact z
theorem takesN0 {X : Cx} : L2N.Takes X (fun _ _ _ _ => False) := fun _ _ ⟨_, _, _, _, _, _, _, _, _, _, _, _, _, _, _, _, z⟩ => z.elim
/-- .. where it does not raise -/
theorem CalX.cal {k : Nat} {x : Str} {sp sp' : Sp} (c : CalX P w K mg base k x sp) (h : ∀ vs H Q E, sp' vs H Q E → sp vs H Q C8.E0) : C8.Cal P w K mg base k x sp' [] := by
  obtain ⟨f, fd, ps, F, hm, kp, b⟩ := c.ex
  refine ⟨f, fd, ps, [], ⟨fun vs H Q E q => F.len vs H Q _ (h _ _ _ _ q), fun A outer s H args us vs Q E hr he hb hv hs => ?_⟩, hm, kp, b, .nil⟩
  refine codeAny_mono (F.run A outer s H args us vs Q C8.E0 hr he hb hv (h _ _ _ _ hs)) fun r s' q => ?_
  cases r with
  | ok f => cases f <;> exact q
  | error e => exact (cx_e0 q).elim
end
section
variable {X : Cx} {k j : Nat} {x : Str} {sp : Sp} {p pos : Pos} {e : Expr} {es : List Expr} {t : TA} {E : XK} {W : WX}
theorem pe_c0 {dvs : List V} (c : C8.Cal X.prog X.w X.K X.mg X.base k x sp dvs) (hr : Room j X.A) (hk : k ≤ j) (hg : Gl X x) (hdb : (x == ("__debug__" : Str)) = false := by decide) : PE X (.Call (.Name x p) [] [] pos) (tCall sp dvs C8.E0 tNil) := by
  obtain ⟨f, fd, ps, ds, F, hm, kp, b, d⟩ := c.ex
  exact pe_call0 F (hr.mono hk) hg hm kp b d C8.pass0 hdb
/-- a call; what it raises leaves the def -/
theorem pe_cX (c : CalX X.prog X.w X.K X.mg X.base k x sp) (hr : Room j X.A) (hk : k ≤ j) (hg : Gl X x) (tk : L2N.Takes X (fun cls d _ H => E cls d H)) (ha : PA X (e :: es) t)
    (hdb : (x == ("__debug__" : Str)) = false := by decide) (he : starEach (e :: es) X.env = (false, eval e X.env) :: starEach es X.env := by rfl) (hpl : (backTo pos (starEach es X.env)).any (·.1) = false := by rfl) :
    PE X (.Call (.Name x p) (e :: es) [] pos) (tCall sp [] E t) := by
  obtain ⟨f, fd, ps, F, hm, kp, b⟩ := c.ex
  exact pe_call F (hr.mono hk) hg hm kp b .nil (L2N.passes_call tk fun _ _ _ _ h => h) ha hdb he hpl
/-- .. what it raises goes to the try around -/
theorem pe_cS (c : CalX X.prog X.w X.K X.mg X.base k x sp) (hr : Room j X.A) (hk : k ≤ j) (hg : Gl X x) (tk : L2N.Takes X W) (ha : PA X (e :: es) t)
    (hdb : (x == ("__debug__" : Str)) = false := by decide) (he : starEach (e :: es) X.env = (false, eval e X.env) :: starEach es X.env := by rfl) (hpl : (backTo pos (starEach es X.env)).any (·.1) = false := by rfl) :
    PE X (.Call (.Name x p) (e :: es) [] pos) (tCallS sp (WE W) t) := by
  obtain ⟨f, fd, ps, F, hm, kp, b⟩ := c.ex
  exact pe_callS F (hr.mono hk) hg hm kp b (fun σ => L2N.passAt tk σ) ha hdb he hpl
/-- the suite of a clause, by the error's own class -/
theorem pss_exc {K : PySem.W.Frag} {ss : List Stmt} {cls : Value} {d : Option Addr} {t : Addr → TS} (h : ∀ D0, cls = .ref D0 → d = none → ExcC K D0 → PSs X ss (t D0)) : PSs X ss (fun D σ H => ∃ D0, cls = .ref D0 ∧ d = none ∧ ExcC K D0 ∧ t D0 D σ H) :=
  ⟨fun pins s σ H D I q => by
    obtain ⟨D0, e1, e2, C, q⟩ := q
    exact (h D0 e1 e2 C).run pins s σ H D I q⟩
end
theorem call_isE1 {K : PySem.W.Frag} {X : Cx} {a D0 : Addr} {oe : Obj} {pn : List (Addr × Obj)} {cls : Value} {d : Option Addr} (C : ExcC K D0) (hz : Zc cls d oe) (hf : ∃ vs, oe.data = .fields vs) (ec : cls = .ref D0) (ed : d = none) (hK : X.K = K := by rfl) : CallR (X.suite a ((a, oe) :: pn)) (.builtin "isinstance") (rIsE K D0 a) := by
  subst ec ed
  subst hK
  exact call_isE C hz hf
/-- an own class of errors -/
structure Exn (K : PySem.W.Frag) (mg : Str → Option Value) (x : Str) (C : Addr) : Prop where
  g : mg x = some (.ref C)
  q : PySem.W.excIn K C [.type "ValueError", .type "Exception", .type "BaseException", .type "object"] "ValueError.__new__" = true
  k : PySem.W.keepIn K (.ref C) = true
  b : PySem.W.subIn K (.ref C) (.type "BaseException") = some true
  t : PySem.W.typeIn K (.ref C) = some (.type "type")
  c : ExcC K C
theorem Exn.cv {K : PySem.W.Frag} {mg : Str → Option Value} {x : Str} {C : Addr} (e : Exn K mg x C) : ∃ u, mg x = some u ∧ RelV (.ref C) u := ⟨_, e.g, rfl⟩
/-- no test stands -/
theorem yesT {σ : L2.St} {H : Hp} {A B : Hp → Prop} (h : A H) : tYes σ H fun b H3 => if b = true then A H3 else B H3 := by
  show if true = true then A H else B H
  rw [if_pos rfl]
  exact h
end CH
end

section
set_option Elab.async false
set_option linter.all false
set_option maxRecDepth 100000
set_option maxHeartbeats 4000000
/-! how many unlike ones a list of whole numbers has -/
namespace CH
open PySem PySem.Spec PyProof.Rows L2
def rLenK (K : PySem.W.Frag) : List V → Hp → VK → Prop := fun xs H Q => ∃ p ys, xs = [V.ref p] ∧ (SqL K H p ys ∨ SqT K H p ys) ∧ Q (.int ys.length) H
/-- the first i of ns, each once -/
def met (ns : List Int) (i : Nat) : List Int := firstMet (fun j => ns.getD j 0) i
theorem met_succ (ns : List Int) (i : Nat) : met ns (i + 1) = if (met ns i).any (· == ns.getD i 0) then met ns i else met ns i ++ [ns.getD i 0] := firstMet_succ _ _
theorem met_spec {ns : List Int} : ∀ i, i ≤ ns.length → (∀ x, x ∈ met ns i ↔ x ∈ ns.take i) ∧ (met ns i).length ≤ i ∧ ((met ns i).length = i ↔ (ns.take i).Nodup)
  | 0, _ => ⟨fun x => by rw [List.take_zero]; exact Iff.rfl, Nat.le_refl 0, ⟨fun _ => by rw [List.take_zero]; exact List.Pairwise.nil, fun _ => rfl⟩⟩
  | i + 1, hi => by
    have hlt : i < ns.length := hi
    obtain ⟨m1, m2, m3⟩ := met_spec i (Nat.le_of_lt hlt)
    have e1 : ns.getD i 0 = ns[i] := by
      rw [List.getD_eq_getElem?_getD, List.getElem?_eq_getElem hlt] <;> rfl
    have e2 : ns.take (i + 1) = ns.take i ++ [ns[i]] := by
      rw [List.take_add_one, List.getElem?_eq_getElem hlt] <;> rfl
    rw [met_succ, e1, e2]
    by_cases h : ns[i] ∈ ns.take i
    · have a : ((met ns i).any (· == ns[i])) = true := List.any_eq_true.mpr ⟨ns[i], (m1 _).mpr h, by simp⟩
      rw [if_pos a]
      refine ⟨fun x => ?_, by omega, ⟨fun z => ?_, fun z => ?_⟩⟩
      · rw [m1 x, List.mem_append, List.mem_singleton]
        exact ⟨.inl, fun z => z.elim id fun e => e ▸ h⟩
      · omega
      · obtain ⟨_, _, z⟩ := List.pairwise_append.mp z
        exact absurd rfl (z _ h _ (by simp))
    · have a : ¬ ((met ns i).any (· == ns[i])) = true := fun z => by
        obtain ⟨y, hy, ey⟩ := List.any_eq_true.mp z
        rw [eq_of_beq ey] at hy
        exact h ((m1 _).mp hy)
      rw [if_neg a]
      refine ⟨fun x => ?_, by rw [List.length_append]; show _ + 1 ≤ _; omega, ?_⟩
      · rw [List.mem_append, List.mem_append, m1 x]
      · rw [List.length_append]
        show (met ns i).length + 1 = i + 1 ↔ _
        constructor
        · intro z
          refine List.pairwise_append.mpr ⟨m3.mp (by omega), List.pairwise_singleton _ _, fun x hx y hy e => ?_⟩
          rw [List.mem_singleton.mp hy] at e
          exact h (e ▸ hx)
        · intro z
          have := m3.mpr (List.pairwise_append.mp z).1
          omega
/-- how many unlike ones -/
def dis (ns : List Int) : Nat := (met ns ns.length).length
theorem dis_le (ns : List Int) : dis ns ≤ ns.length := (met_spec (ns := ns) ns.length (Nat.le_refl _)).2.1
theorem dis_eq (ns : List Int) : dis ns = ns.length ↔ ns.Nodup := by
  have h := (met_spec (ns := ns) ns.length (Nat.le_refl _)).2.2
  rw [List.take_length] at h
  exact h
def tLenSetG (K : PySem.W.Frag) (ta : TE) : TE := fun σ H Q => ta σ H fun x H1 => ∃ (l : Addr) (ns : List Int), x = .ref l ∧ SqL K H1 l (ns.map V.int) ∧ ns.length ≤ 4000 ∧ Q (.int (dis ns : Int)) H1
theorem pe_lenSetG {X : Cx} {a : Expr} {ta : TE} {p p2 q pos : Pos} (hg : Gl X "len") (hm : X.mg "len" = none) (hg2 : Gl X "set") (hm2 : X.mg "set" = none) (ha : PE X a ta) (hc : X.calm = true := by rfl)
    (na : starEach [a] X.env = (false, eval a X.env) :: starEach [] X.env := by rfl) : PE X (.Call (.Name "len" p) [.Call (.Name "set" p2) [a] [] q] [] pos) (tLenSetG X.K ta) := by
  refine ⟨fun pins s σ H Q I h => ?_⟩
  refine Call_ (ld_blt I hg hm boot_len ?_)
  refine PyProof.Rows.callWith_builtin1 (PyProof.Rows.args_cons ?_ rfl) rfl rfl
  refine Call_ (ld_blt I hg2 hm2 boot_set ?_)
  refine PyProof.Rows.callWith_type1 (PyProof.Rows.args_cons (thn (ha.run pins s σ H _ I h) fun v s1 ⟨x, H1, I1, r1, q1⟩ => PyProof.Rows.args_nil ?_) na) na rfl
  obtain ⟨l, ns, rfl, hq, hl, q1⟩ := q1
  cases r1
  obtain ⟨its, r, pl, hz⟩ := I1.list hq
  have hlen : its.toArray.size = ns.length := by rw [List.size_toArray, ← r.length, List.length_map]
  refine call_set_list (I1.ok.hd hc) pl.isList (by simpa using RZ.intsAre_vals r) (by rw [hlen]; unfold scanBound; omega) fun h' tk hS hk => ?_
  refine PyProof.Rows.args_nil ?_
  rw [hlen] at hS
  obtain ⟨m1, m2, m3⟩ := met_spec (ns := ns) ns.length (Nat.le_refl _)
  rw [List.take_length] at m3
  obtain ⟨o, es, ep, t, ho, hex, hd, _, _, _, hf, hn⟩ := hS
  have hn' : _ = (met ns ns.length).length := hn
  have I2 : Inv X pins σ H1 { s1 with heap := h', toks := tk } := I1.kept fun b o e => hk b o (Heap.lt_size e) e
  exact call_len_set ho hex hd hf (by rw [hn'] <;> omega) ⟨.int (met ns ns.length).length, H1, I2.tok _, ⟨_, by rw [hn']⟩, q1⟩
/-- [g(x) for x in ns], truths -/
theorem lc_bools {K : PySem.W.Frag} {a : Addr} {ns : List Int} {i : Nat} {te : TE} {vs : List Nat} {σ : L2.St} {H0 : Hp} {D : Addr} {Qd : Hp → Prop} (g : Int → Bool) (hl : SqL K H0 a (ns.map V.int)) (nD : H0 D = none) (h4 : ns.length ≤ 4000)
    (hw : ∀ x, wipe ((wipe σ vs).set i (some (.int x))) vs = wipe σ vs)
    (hs : ∀ x H3, x ∈ ns → Kx H0 H3 → ∀ Q : VK, (∀ H4, Kx H3 H4 → Q (.bl (g x)) H4) → te ((wipe σ vs).set i (some (.int x))) H3 Q)
    (hd : ∀ H3, Kx H0 H3 → H3 D = some (.lst ((ns.map g).map V.bl)) → Qd H3) :
    ∃ W : Nat → Nat → Hp → Prop, (∃ m, W 0 m (upd H0 D (.lst []))) ∧ ∀ i1 m H, W i1 m H →
      ((Itl K a).stop i1 H ∧ Qd H) ∨ ((Itl K a).go i1 H ∧ ∃ Nx : Hp → Prop, (∀ H', Nx H' → ∃ m', m' < m ∧ W (i1 + 1) m' H') ∧ ∀ x H', (Itl K a).yld i1 H x H' → gName i x (wipe σ vs) H' fun σ2 H2 => wipe σ2 vs = wipe σ vs ∧ tYes σ2 H2 fun b H3 =>
        if b = true then te σ2 H3 fun y H4 => ∃ acc, H4 D = some (.lst acc) ∧ acc.length < sizeLine ∧ Nx (upd H4 D (.lst (acc ++ [y]))) else Nx H3) := by
  refine lc_list (K := K) (a := a) (xs := ns.map V.int) (fun j H3 => Kx H0 H3 ∧ H3 D = some (.lst (((ns.take j).map g).map V.bl))) ⟨Kx.new nD, upd_same⟩ (fun j H3 _ h => h.1.l hl) ?_ ?_
  · rintro j y H3 hj ⟨k3, hD⟩
    obtain ⟨x, hx, rfl⟩ : ∃ x, ns[j]? = some x ∧ V.int x = y := by
      rw [List.getElem?_map] at hj
      exact Option.map_eq_some_iff.mp hj
    have e1 : ns.take (j + 1) = ns.take j ++ [x] := by rw [List.take_add_one, hx] <;> rfl
    refine ⟨hw x, yesT ?_⟩
    refine hs x H3 (List.mem_of_getElem? hx) k3 _ fun H4 k4 => ⟨_, k4.lst hD, ?_, (k3.trans k4).mut nD, ?_⟩
    · rw [List.length_map, List.length_map, List.length_take]
      exact lt80 (by omega)
    · rw [upd_same, e1, List.map_append, List.map_append] <;> rfl
  · rintro H3 ⟨k3, hD⟩
    rw [List.length_map, List.take_length] at hD
    exact hd H3 k3 hD
theorem all_map (g : Int → Bool) (ns : List Int) : (ns.map g).all id = ns.all g := by rw [List.all_map] <;> rfl
theorem any_map (g : Int → Bool) (ns : List Int) : (ns.map g).any id = ns.any g := by rw [List.any_map] <;> rfl
/-- [φ for x, y in zip(xs, ys)] -/
theorem lc_zipF {K : PySem.W.Frag} {a b : Addr} {xs ys : List V} {s1 s2 : Nat} {te : TE} {vs : List Nat} {σ : L2.St} {H0 : Hp} {D : Addr} {Qd : Hp → Prop} (φ : Nat → V) (hl : xs.length = ys.length) (h4 : xs.length ≤ 4000) (ha : SqL K H0 a xs) (hb : SqL K H0 b ys) (nD : H0 D = none)
    (hw : ∀ x y, wipe (((wipe σ vs).set s1 (some x)).set s2 (some y)) vs = wipe σ vs)
    (hs : ∀ (i : Nat) (x y : V) (T : Addr) (H3 : Hp), xs[i]? = some x → ys[i]? = some y → Kx H0 H3 → H3 T = none → ∀ Q : VK, (∀ H4, Kx (upd H3 T (.tup [x, y])) H4 → Q (φ i) H4) → te (((wipe σ vs).set s1 (some x)).set s2 (some y)) (upd H3 T (.tup [x, y])) Q)
    (hd : ∀ H3, Kx H0 H3 → H3 D = some (.lst ((List.range xs.length).map φ)) → Qd H3) :
    ∃ W : Nat → Nat → Hp → Prop, (∃ m, W 0 m (upd H0 D (.lst []))) ∧ ∀ i1 m H, W i1 m H →
      ((Itz K a b).stop i1 H ∧ Qd H) ∨ ((Itz K a b).go i1 H ∧ ∃ Nx : Hp → Prop, (∀ H', Nx H' → ∃ m', m' < m ∧ W (i1 + 1) m' H') ∧ ∀ x H', (Itz K a b).yld i1 H x H' → gTup K 2 (gCons (gName s1) (gCons (gName s2) gNil)) x (wipe σ vs) H' fun σ2 H2 => wipe σ2 vs = wipe σ vs ∧ tYes σ2 H2 fun b H3 =>
        if b = true then te σ2 H3 fun y H4 => ∃ acc, H4 D = some (.lst acc) ∧ acc.length < sizeLine ∧ Nx (upd H4 D (.lst (acc ++ [y]))) else Nx H3) := by
  refine ⟨fun i m H => m = xs.length - i ∧ i ≤ xs.length ∧ Kx H0 H ∧ H D = some (.lst ((List.range i).map φ)), ⟨xs.length, rfl, Nat.zero_le _, Kx.new nD, upd_same⟩, ?_⟩
  rintro i m H ⟨rfl, hi, k3, hD⟩
  have qx := k3.l ha
  have qy := k3.l hb
  by_cases hlt : i < xs.length
  · have hx : xs[i]? = some xs[i] := List.getElem?_eq_getElem hlt
    have hlt2 : i < ys.length := by omega
    have hy : ys[i]? = some ys[i] := List.getElem?_eq_getElem hlt2
    refine .inr ⟨⟨xs, ys, _, _, qx, qy, hx, hy⟩, fun H' => Kx H0 H' ∧ H' D = some (.lst ((List.range (i + 1)).map φ)), fun H' p' => ⟨xs.length - (i + 1), by omega, rfl, hlt, p'.1, p'.2⟩, fun v H' y => ?_⟩
    obtain ⟨T, x', y', rfl, hT, rfl, f1, f2⟩ := y
    have ht : (upd H T (.tup [x', y'])) T = some (.tup [x', y']) := upd_same
    have kT : Kx H (upd H T (.tup [x', y'])) := Kx.new hT
    refine ⟨T, _, rfl, st_of ht, rfl, _, _, rfl, _, _, rfl, rfl, hw x' y', yesT ?_⟩
    refine hs i x' y' T H (f1 xs qx) (f2 ys qy) k3 hT _ fun H4 k4 => ⟨_, (kT.trans k4).lst hD, ?_, ((k3.trans kT).trans k4).mut nD, ?_⟩
    · rw [List.length_map, List.length_range]
      exact lt80 (by omega)
    · rw [upd_same, List.range_succ, List.map_append] <;> rfl
  · have e : i = xs.length := by omega
    subst e
    exact .inl ⟨⟨xs, ys, qx, qy, Or.inl (Nat.le_refl _)⟩, hd H k3 hD⟩
/-- for i, x in enumerate(xs) -/
theorem for_enumL {K : PySem.W.Frag} {a : Addr} {xs : List V} {g : TG} {tb : TS} {D : Ends} {σ : L2.St} {H : Hp} (Pv : Nat → L2.St → Hp → Prop) (h0 : Pv 0 σ H) (hl : ∀ i σ H, Pv i σ H → SqL K H a xs)
    (hs : ∀ (i : Nat) (x : V) (T : Addr) (σ : L2.St) (H : Hp), xs[i]? = some x → Pv i σ H → H T = none → g (.ref T) σ (upd H T (.tup [.int (i : Nat), x])) fun σ2 H2 => tb { D with nx := Pv (i + 1), ct := Pv (i + 1), bk := D.nx } σ2 H2) (hd : ∀ σ H, Pv xs.length σ H → D.nx σ H) :
    ∃ W : Nat → Nat → L2.St → Hp → Prop, (∃ m, W 0 m σ H) ∧ ∀ i m σ H, W i m σ H →
      ((Ite K a).stop i H ∧ D.nx σ H) ∨ ((Ite K a).go i H ∧ ∃ N : L2.St → Hp → Prop, (∀ σ' H', N σ' H' → ∃ m', m' < m ∧ W (i + 1) m' σ' H') ∧ ∀ v H', (Ite K a).yld i H v H' → g v σ H' fun σ2 H2 => tb { D with nx := N, ct := N, bk := D.nx } σ2 H2) := by
  refine ⟨fun i m σ H => m = xs.length - i ∧ i ≤ xs.length ∧ Pv i σ H, ⟨xs.length, rfl, Nat.zero_le _, h0⟩, ?_⟩
  rintro i m σ H ⟨rfl, hi, p⟩
  have qx := hl i σ H p
  by_cases hlt : i < xs.length
  · have hx : xs[i]? = some xs[i] := List.getElem?_eq_getElem hlt
    refine .inr ⟨⟨xs, _, qx, hx⟩, Pv (i + 1), fun σ' H' p' => ⟨xs.length - (i + 1), by omega, rfl, hlt, p'⟩, fun v H' y => ?_⟩
    obtain ⟨T, x', rfl, hT, rfl, f1⟩ := y
    exact hs i x' T σ H (f1 xs qx) p hT
  · have e : i = xs.length := by omega
    subst e
    exact .inl ⟨⟨xs, qx, Nat.le_refl _⟩, hd σ H p⟩
end CH
end

section
set_option Elab.async false
set_option linter.all false
set_option maxRecDepth 100000
set_option maxHeartbeats 4000000
/-! defs with defaults, methods, own classes -/
namespace CH
open PySem PySem.Spec PyProof.Rows L2
abbrev FnQ (K : PySem.W.Frag) (x qual : Str) (st : Stmt) (dvs : List V) (f : Addr) (fd : FuncData) : Prop := FunD K x qual (defArgs st) (defBody st) (defScope st) dvs [] f fd
/-- the code object of the function at f -/
def CodeAt (K : PySem.W.Frag) (f c : Addr) : Prop := ∀ oc od osl fd', K.lookup f = some ⟨oc, od, .func fd', osl⟩ → fd'.code = .ref c
/-- a def with defaults -/
structure DefQ (K : PySem.W.Frag) (mg : Str → Option Value) (x : Str) (st : Stmt) (dvs : List V) (c : Addr) : Prop where
  ex : ∃ (f : Addr) (fd : FuncData), FnQ K x x st dvs f fd ∧ mg x = some (.ref f) ∧ CodeAt K f c
/-- a method of an own class -/
structure MetT (K : PySem.W.Frag) (C : Addr) (m qual : Str) (st : Stmt) (c : Addr) : Prop where
  ex : ∃ (f : Addr) (fd : FuncData), FnQ K m qual st [] f fd ∧ Meth K C m f ∧ Cls K C ∧ CodeAt K f c
/-- an own class with its __init__ -/
structure MakT (K : PySem.W.Frag) (mg : Str → Option Value) (x : Str) (C : Addr) (qual : Str) (st : Stmt) (c : Addr) : Prop where
  ex : ∃ (f : Addr) (fd : FuncData), FnQ K "__init__" qual st [] f fd ∧ Mk K C f ∧ mg x = some (.ref C) ∧ CodeAt K f c
/-- what of a class its objects want -/
structure Own (K : PySem.W.Frag) (mg : Str → Option Value) (x : Str) (C : Addr) : Prop where
  g : mg x = some (.ref C)
  cl : Cls K C
  ha : PySem.W.findIn K (.ref C) "__class__" = some (some (.builtin "object.__class__"))
  hn : PySem.W.specialIn K (.builtin "object.__class__") "__get__" = some (some (.builtin "getset_descriptor.__get__"))
  htk : PySem.W.takesIn K (.builtin "object.__class__") = some true
  hm : PySem.W.mroIn K C (.type "object") = some true
theorem Own.cv {K : PySem.W.Frag} {mg : Str → Option Value} {x : Str} {C : Addr} (e : Own K mg x C) : ∃ u, mg x = some u ∧ RelV (.ref C) u := ⟨_, e.g, rfl⟩
theorem Own.ty {K : PySem.W.Frag} {mg : Str → Option Value} {x : Str} {C : Addr} (e : Own K mg x C) {H : Hp} {a dx : Addr} {fs : List (Str × V)} (h : H a = some (.ins C dx fs)) : TyX K H (.ref a) (.ref C) := .base (.ins h e.cl e.ha e.hn e.htk e.hm)
section
variable {P : Program} {w : World} {K : PySem.W.Frag} {mg : Str → Option Value} {base : Heap}
abbrev Bodies (CX : CXT) (P : Program) (w : World) (K : PySem.W.Frag) (mg : Str → Option Value) (base : Heap) (N : List Str) (qual : Str) (st : Stmt) (c : Addr) (k : Nat) (sp : Sp) : Prop :=
  ∀ (f : Addr) (A : Around) (outer : List Env) (s : Shared) (H : Hp) (vs : List V) (Q : VK) (E : XK), Room k (A.deeper (envOfC qual (defScope st) s.heap.objs.size f (.ref c))) → sp vs H Q E →
      ∃ t, PSs (cxOf CX P w K mg base N qual (defScope st) f (.ref c) A outer s H E) (defBody st) t ∧ t { nx := fun _ H' => Q .non H', rt := Q } (start N vs) H
abbrev Bodies0 (P : Program) (w : World) (K : PySem.W.Frag) (mg : Str → Option Value) (base : Heap) (N : List Str) (qual : Str) (st : Stmt) (c : Addr) (k : Nat) (sp : Sp) : Prop :=
  ∀ (f : Addr) (A : Around) (outer : List Env) (s : Shared) (H : Hp) (vs : List V) (Q : VK) (E : XK), Room k (A.deeper (envOfC qual (defScope st) s.heap.objs.size f (.ref c))) → sp vs H Q E →
      ∃ t, PSs (cxOf CX0 P w K mg base N qual (defScope st) f (.ref c) A outer s H E).nox (defBody st) t ∧ t { nx := fun _ H' => Q .non H', rt := Q } (start N vs) H
theorem fnq {CX : CXT} {x qual : Str} {st : Stmt} {dvs : List V} {f c : Addr} {fd : FuncData} {N ps : List Str} {k : Nat} {sp : Sp} (F : FnQ K x qual st dvs f fd) (hc : CodeAt K f c) (S : FnScope N ps (defScope st)) (len : ∀ vs H Q E, sp vs H Q E → vs.length = ps.length)
    (hbody : Bodies CX P w K mg base N qual st c k sp) : FnOk P w K mg base CX (k + 1) f fd ps sp := by
  obtain ⟨oc, od, dV, kV, doc, pm, an, cdv, ct, osl, rfl, lk, hcd, _, _⟩ := F.ex
  obtain rfl : cdv = .ref c := hc _ _ _ _ lk
  exact fn_of lk hcd S len fun A outer s H vs Q E hr hsp => hbody f A outer s H vs Q E hr hsp
theorem Bodies0.x {N : List Str} {qual : Str} {st : Stmt} {c : Addr} {k : Nat} {sp : Sp} (h : Bodies0 P w K mg base N qual st c k sp) : Bodies CX0 P w K mg base N qual st c k sp := fun f A outer s H vs Q E hr hs => by
  obtain ⟨t, a, b⟩ := h f A outer s H vs Q E hr hs
  exact ⟨t, a.nox, b⟩
abbrev BindF (ps : List Str) (x qual : Str) (st : Stmt) : Prop :=
  ∀ (kV doc pm : Value) (an : Option Addr) (cdv ct : Value) (us : List Value), us.length = ps.length → bindArgs (PySem.W.fnOf x qual (defArgs st) (defBody st) (defScope st) .none kV doc pm an cdv ct) ⟨us, []⟩ = pure (ps.zip us)
/-- defaults from the j-th on fill up what is not written -/
abbrev BindD (ps : List Str) (x qual : Str) (st : Stmt) (n j m : Nat) : Prop :=
  ∀ (T : Addr) (kV doc pm : Value) (an : Option Addr) (cdv ct : Value) (us its : List Value), us.length = n → its.length = m →
      ∃ k, bindArgs (PySem.W.fnOf x qual (defArgs st) (defBody st) (defScope st) (.ref T) kV doc pm an cdv ct) ⟨us, []⟩ = seqItems? (.ref T) >>= k ∧ k (some its.toArray) = pure (ps.zip (us ++ its.drop j))
theorem calQ_of {x : Str} {st : Stmt} {dvs : List V} {c : Addr} {N ps : List Str} {k n j : Nat} {sp : Sp} (D : DefQ K mg x st dvs c) (S : FnScope N ps (defScope st)) (hd : dvs ≠ []) (hn : n + (dvs.length - j) = ps.length) (hb : BindD ps x x st n j dvs.length)
    (len : ∀ vs H Q E, sp vs H Q E → vs.length = ps.length) (hbody : Bodies0 P w K mg base N x st c k sp) : C8.Cal P w K mg base (k + 1) x sp (dvs.drop j) := by
  obtain ⟨f, fd, F, hm, hc⟩ := D.ex
  obtain ⟨ds, r, b⟩ := F.binds1 n j hd hn hb
  exact ⟨f, fd, ps, ds, fnq F hc S len hbody.x, hm, F.kp, b, r⟩
theorem met_of {C : Addr} {m qual : Str} {st : Stmt} {c : Addr} {N ps : List Str} {k : Nat} {sp : Sp} (D : MetT K C m qual st c) (S : FnScope N ps (defScope st)) (hb : BindF ps m qual st)
    (len : ∀ vs H Q E, sp vs H Q E → vs.length = ps.length) (hbody : Bodies0 P w K mg base N qual st c k sp) : C8.Met P w K mg base (k + 1) C m sp [] := by
  obtain ⟨f, fd, F, hm, cl, hc⟩ := D.ex
  exact ⟨f, fd, ps, [], cl, hm, fnq F hc S len hbody.x, FunD.bindsN F hb, .nil⟩
theorem mak_of {x : Str} {C : Addr} {qual : Str} {st : Stmt} {c : Addr} {N ps : List Str} {k : Nat} {sp : Sp} (D : MakT K mg x C qual st c) (S : FnScope N ps (defScope st)) (hb : BindF ps "__init__" qual st)
    (len : ∀ vs H Q E, sp vs H Q E → vs.length = ps.length) (hbody : Bodies0 P w K mg base N qual st c k sp) : C8.Mak P w K mg base (k + 1) x C sp [] := by
  obtain ⟨f, fd, F, hm, hg, hc⟩ := D.ex
  exact ⟨f, fd, ps, [], hm, fnq F hc S len hbody.x, hg, FunD.bindsN F hb, .nil⟩
/-- a method that may raise -/
structure MetX (P : Program) (w : World) (K : PySem.W.Frag) (mg : Str → Option Value) (base : Heap) (k : Nat) (C : Addr) (m : Str) (sp : Sp) : Prop where
  ex : ∃ (f : Addr) (fd : FuncData) (ps : List Str), Cls K C ∧ Meth K C m f ∧ FnOk P w K mg base (L2N.CX P w) k f fd ps sp ∧ Binds K fd ps []
theorem metX_of {C : Addr} {m qual : Str} {st : Stmt} {c : Addr} {N ps : List Str} {k : Nat} {sp : Sp} (D : MetT K C m qual st c) (S : FnScope N ps (defScope st)) (hb : BindF ps m qual st)
    (len : ∀ vs H Q E, sp vs H Q E → vs.length = ps.length) (hbody : Bodies (L2N.CX P w) P w K mg base N qual st c k sp) : MetX P w K mg base (k + 1) C m sp := by
  obtain ⟨f, fd, F, hm, cl, hc⟩ := D.ex
  exact ⟨f, fd, ps, cl, hm, fnq F hc S len hbody, FunD.bindsN F hb⟩
/-- .. where it does not raise -/
theorem MetX.met {k : Nat} {C : Addr} {m : Str} {sp sp' : Sp} (c : MetX P w K mg base k C m sp) (h : ∀ vs H Q E, sp' vs H Q E → sp vs H Q C8.E0) : C8.Met P w K mg base k C m sp' [] := by
  obtain ⟨f, fd, ps, cl, hm, F, b⟩ := c.ex
  refine ⟨f, fd, ps, [], cl, hm, ⟨fun vs H Q E q => F.len vs H Q _ (h _ _ _ _ q), fun A outer s H args us vs Q E hr he hb hv hs => ?_⟩, b, .nil⟩
  refine codeAny_mono (F.run A outer s H args us vs Q C8.E0 hr he hb hv (h _ _ _ _ hs)) fun r s' q => ?_
  cases r with
  | ok f => cases f <;> exact q
  | error e => exact (cx_e0 q).elim
/-- a class whose __init__ may raise -/
structure MakX (P : Program) (w : World) (K : PySem.W.Frag) (mg : Str → Option Value) (base : Heap) (k : Nat) (x : Str) (C : Addr) (sp : Sp) : Prop where
  ex : ∃ (f : Addr) (fd : FuncData) (ps : List Str), Mk K C f ∧ FnOk P w K mg base (L2N.CX P w) k f fd ps sp ∧ mg x = some (.ref C) ∧ Binds K fd ps []
theorem makX_of {x : Str} {C : Addr} {qual : Str} {st : Stmt} {c : Addr} {N ps : List Str} {k : Nat} {sp : Sp} (D : MakT K mg x C qual st c) (S : FnScope N ps (defScope st)) (hb : BindF ps "__init__" qual st)
    (len : ∀ vs H Q E, sp vs H Q E → vs.length = ps.length) (hbody : Bodies (L2N.CX P w) P w K mg base N qual st c k sp) : MakX P w K mg base (k + 1) x C sp := by
  obtain ⟨f, fd, F, hm, hg, hc⟩ := D.ex
  exact ⟨f, fd, ps, hm, fnq F hc S len hbody, hg, FunD.bindsN F hb⟩
theorem MakX.mak {k : Nat} {C : Addr} {x : Str} {sp sp' : Sp} (c : MakX P w K mg base k x C sp) (h : ∀ vs H Q E, sp' vs H Q E → sp vs H Q C8.E0) : C8.Mak P w K mg base k x C sp' [] := by
  obtain ⟨f, fd, ps, hm, F, hg, b⟩ := c.ex
  refine ⟨f, fd, ps, [], hm, ⟨fun vs H Q E q => F.len vs H Q _ (h _ _ _ _ q), fun A outer s H args us vs Q E hr he hb hv hs => ?_⟩, hg, b, .nil⟩
  refine codeAny_mono (F.run A outer s H args us vs Q C8.E0 hr he hb hv (h _ _ _ _ hs)) fun r s' q => ?_
  cases r with
  | ok f => cases f <;> exact q
  | error e => exact (cx_e0 q).elim
end
section
variable {X : Cx} {k j : Nat} {C : Addr} {x m : Str} {sp : Sp} {p pos apos : Pos} {e o : Expr} {es : List Expr} {ta : TE} {t : TA} {E : XK} {W : WX}
/-- one expression, two readings: whoever answers picks one -/
theorem pe_any2 {t1 t2 : TE} (a : PE X e t1) (b : PE X e t2) : PE X e (fun σ H Q => t1 σ H Q ∨ t2 σ H Q) := ⟨fun pins s σ H Q I h => h.elim (a.run pins s σ H Q I) (b.run pins s σ H Q I)⟩
/-- an object is made; what its __init__ raises leaves the def -/
theorem pe_mkX (c : MakX X.prog X.w X.K X.mg X.base k x C sp) (hr : Room j X.A) (hk : k + 1 ≤ j) (hg : Gl X x) (tk : L2N.Takes X (fun cls d _ H => E cls d H)) (ha : PA X (e :: es) t)
    (hdb : (x == ("__debug__" : Str)) = false := by decide) (he : starEach (e :: es) X.env = (false, eval e X.env) :: starEach es X.env := by rfl) (hpl : (backTo pos (starEach es X.env)).any (·.1) = false := by rfl) :
    PE X (.Call (.Name x p) (e :: es) [] pos) (tMake C sp [] E t) := by
  obtain ⟨f, fd, ps, M, F, hm, b⟩ := c.ex
  exact pe_make M F (hr.mono hk) hg hm b .nil (L2N.passes_call tk fun _ _ _ _ h => h) ha hdb he hpl
theorem pe_mtX {pl : Sem Bool} (c : MetX X.prog X.w X.K X.mg X.base k C m sp) (hr : Room j X.A) (hk : k ≤ j) (tk : L2N.Takes X (fun cls d _ H => E cls d H)) (he : PE X o ta) (ha : PA X (e :: es) t)
    (hst : starEach (e :: es) X.env = (false, eval e X.env) :: starEach es X.env := by rfl) (hpl : (backTo pos (starEach es X.env)).any (·.1) = false := by rfl)
    (ht : eval (.Call (.Attribute o m apos) (e :: es) [] pos) X.env = (do
      let ov ← eval o X.env
      standAt apos.atName
      let fx ← holding [ov] (getMethod ov m pl)
      callWith pos fx.1 fx.2 (backTo pos (starEach (e :: es) X.env)) (backToKw pos (keywordEach [] X.env))) := by rfl) :
    PE X (.Call (.Attribute o m apos) (e :: es) [] pos) (tMeth C m sp [] E ta t) := by
  obtain ⟨f, fd, ps, cl, hm, F, b⟩ := c.ex
  exact pe_meth (pl := pl) he cl hm F (hr.mono hk) b .nil (L2N.passes_call tk fun _ _ _ _ h => h) ha hst hpl ht
end
end CH
end

section
set_option Elab.async false
set_option linter.all false
/-! facts of classes of errors, as Bools over the written part -/
namespace CH
open PySem PySem.Spec PyProof.Rows L2
def excCB (K : PySem.W.Frag) (D : Addr) : Bool :=
  He.eqO (PySem.W.findIn K (.ref D) "__getattribute__") (some (some (.builtin "BaseException.__getattribute__"))) && (He.eqO (PySem.W.findIn K (.ref D) "__getattr__") (some none) && (decide (PySem.W.subIn K (.ref D) (.type "BaseException") = some true) && (PySem.W.hasDictIn K D &&
  (He.eqO (PySem.W.findIn K (.ref D) "__class__") (some (some (.builtin "object.__class__"))) && (He.eqO (PySem.W.specialIn K (.builtin "object.__class__") "__get__") (some (some (.builtin "getset_descriptor.__get__"))) && (decide (PySem.W.takesIn K (.builtin "object.__class__") = some true) && decide (PySem.W.mroIn K D (.type "object") = some true)))))))
theorem excCB_ok {K : PySem.W.Frag} {D : Addr} (h : excCB K D = true) : ExcC K D := by
  obtain ⟨h1, h⟩ := He.ba h
  obtain ⟨h2, h⟩ := He.ba h
  obtain ⟨h3, h⟩ := He.ba h
  obtain ⟨h4, h⟩ := He.ba h
  obtain ⟨h5, h⟩ := He.ba h
  obtain ⟨h6, h⟩ := He.ba h
  obtain ⟨h7, h8⟩ := He.ba h
  exact ⟨He.eqO_ok h1, He.eqO_ok h2, of_decide_eq_true h3, h4, He.eqO_ok h5, He.eqO_ok h6, of_decide_eq_true h7, of_decide_eq_true h8⟩
def kitEB (K : PySem.W.Frag) (x y : Str) (b : Bool) : Bool := decide (PySem.W.kitOne K (.ref (He.ga K x)) (.ref (He.ga K y)) = some b)
theorem kitEB_ok {K : PySem.W.Frag} {x y : Str} {b : Bool} (h : kitEB K x y b = true) : PySem.W.kitOne K (.ref (He.ga K x)) (.ref (He.ga K y)) = some b := of_decide_eq_true h
theorem exn_of {K : PySem.W.Frag} {h : Heap} {mg : Str → Option Value} {x : Str} (X : K.In h) (G : h.Ns mainGlobals mg) (g : (He.Fa.glo x).ok K = true) (e : (He.Fa.exc x).ok K = true) (c : excCB K (He.ga K x) = true) : Exn K mg x (He.ga K x) := by
  obtain ⟨e1, e2, e3, e4⟩ := He.exc_ok e
  exact ⟨He.glo_ok X G g, e1, e2, e3, e4, excCB_ok c⟩
def ownB (K : PySem.W.Frag) (C : Addr) : Bool :=
  He.eqO (PySem.W.findIn K (.ref C) "__class__") (some (some (.builtin "object.__class__"))) && (He.eqO (PySem.W.specialIn K (.builtin "object.__class__") "__get__") (some (some (.builtin "getset_descriptor.__get__"))) && (decide (PySem.W.takesIn K (.builtin "object.__class__") = some true) && decide (PySem.W.mroIn K C (.type "object") = some true)))
theorem own_of {K : PySem.W.Frag} {mg : Str → Option Value} {x : Str} {C : Addr} (g : mg x = some (.ref C)) (cl : Cls K C) (h : ownB K C = true) : Own K mg x C := by
  obtain ⟨h1, h⟩ := He.ba h
  obtain ⟨h2, h⟩ := He.ba h
  obtain ⟨h3, h4⟩ := He.ba h
  exact ⟨g, cl, He.eqO_ok h1, He.eqO_ok h2, of_decide_eq_true h3, of_decide_eq_true h4⟩
theorem codeAt_of {K : PySem.W.Frag} {x qual : Str} {st : Stmt} {dvs : List V} {p : Str × Option Str} {fd : FuncData} (F : FnQ K x qual st dvs (He.fAd K p) fd) : CodeAt K (He.fAd K p) (He.codeOf K p) := fun oc od osl fd' lk' => by
  obtain ⟨oc1, od1, dV, kV, doc, pm, an, cdv, ct, osl1, rfl, lk, hcd, _, _⟩ := F.ex
  obtain ⟨c', ec⟩ := He.codeIn_ref hcd
  have e2 : He.codeOf K p = c' := He.codeOf_eq lk ec
  rw [lk] at lk'
  cases lk'
  rw [e2]
  exact ec
theorem defQ_of {K : PySem.W.Frag} {mg : Str → Option Value} {x : Str} {st : Stmt} {dvs : List V} (F : ∃ fd, FnQ K x x st dvs (He.fAd K (x, none)) fd) (hm : mg x = some (.ref (He.ga K x))) : DefQ K mg x st dvs (He.codeOf K (x, none)) := by
  obtain ⟨fd, F⟩ := F
  exact ⟨_, fd, F, hm, codeAt_of F⟩
theorem metT_of {K : PySem.W.Frag} {x m qual : Str} {st : Stmt} (F : ∃ fd, FnQ K m qual st [] (He.fAd K (x, some m)) fd) (hm : Meth K (He.ga K x) m (He.ma K (He.ga K x) m)) (cl : Cls K (He.ga K x)) : MetT K (He.ga K x) m qual st (He.codeOf K (x, some m)) := by
  obtain ⟨fd, F⟩ := F
  exact ⟨_, fd, F, hm, cl, codeAt_of F⟩
theorem makT_of {K : PySem.W.Frag} {mg : Str → Option Value} {x qual : Str} {st : Stmt} (F : ∃ fd, FnQ K "__init__" qual st [] (He.fAd K (x, some "__init__")) fd) (hm : Mk K (He.ga K x) (He.ma K (He.ga K x) "__init__")) (g : mg x = some (.ref (He.ga K x))) : MakT K mg x (He.ga K x) qual st (He.codeOf K (x, some "__init__")) := by
  obtain ⟨fd, F⟩ := F
  exact ⟨_, fd, F, hm, g, codeAt_of F⟩
/-- of these classes each is an instance's class of itself alone -/
def kitsB (K : PySem.W.Frag) (xs : List Str) : Bool := (List.range xs.length).all fun i => (List.range xs.length).all fun j => decide (PySem.W.kitOne K (.ref (He.ga K (xs.getD i ""))) (.ref (He.ga K (xs.getD j ""))) = some (decide (j = i)))
theorem kitsB_ok {K : PySem.W.Frag} {xs : List Str} (h : kitsB K xs = true) (i j : Nat) (C D : Addr) (hi : (xs.map (He.ga K))[i]? = some C) (hj : (xs.map (He.ga K))[j]? = some D) : PySem.W.kitOne K (.ref C) (.ref D) = some (decide (j = i)) := by
  rw [List.getElem?_map] at hi hj
  obtain ⟨x, hx, rfl⟩ := Option.map_eq_some_iff.mp hi
  obtain ⟨y, hy, rfl⟩ := Option.map_eq_some_iff.mp hj
  have li := (List.getElem?_eq_some_iff.mp hx).1
  have lj := (List.getElem?_eq_some_iff.mp hy).1
  have z := of_decide_eq_true (List.all_eq_true.mp (List.all_eq_true.mp h i (List.mem_range.mpr li)) j (List.mem_range.mpr lj))
  rw [List.getD_eq_getElem?_getD, List.getD_eq_getElem?_getD, hx, hy] at z
  exact z
def kitsVB (K : PySem.W.Frag) (xs : List Str) : Bool := xs.all fun x => decide (PySem.W.kitOne K (.ref (He.ga K x)) (.type "ValueError") = some true)
theorem kitsVB_ok {K : PySem.W.Frag} {xs : List Str} (h : kitsVB K xs = true) (i : Nat) (C : Addr) (hi : (xs.map (He.ga K))[i]? = some C) : PySem.W.kitOne K (.ref C) (.type "ValueError") = some true := by
  rw [List.getElem?_map] at hi
  obtain ⟨x, hx, rfl⟩ := Option.map_eq_some_iff.mp hi
  exact of_decide_eq_true (List.all_eq_true.mp h x (List.mem_of_getElem? hx))
def farB (K : PySem.W.Frag) (x y : Str) : Bool := decide ((He.cT K (x, none)).2 ≠ (He.cT K (y, none)).2)
theorem farB_ok {K : PySem.W.Frag} {x y : Str} (h : farB K x y = true) : (He.cT K (x, none)).2 ≠ (He.cT K (y, none)).2 := of_decide_eq_true h
end CH
end

section
set_option Elab.async false
set_option linter.all false
namespace CH
open PySem L2
/-! ### words -/
structure Wd where
  c : Int
  h : Int
  p : Int
  o : Int
  a : Str
  deriving DecidableEq
def Wd.V (w : Wd) : List V := [.int w.c, .int w.h, .int w.p, .int w.o, .str w.a]
def ansL : List Str := ["yes", "maybe", "no"]
def Wd.ok (w : Wd) : Prop := 1 ≤ w.c ∧ w.c ≤ 99 ∧ 0 ≤ w.h ∧ w.h ≤ 3 ∧ 0 ≤ w.p ∧ w.p ≤ 7 ∧ 0 ≤ w.o ∧ w.o ≤ 11 ∧ w.a ∈ ansL
/-- the words ws stand at ts -/
def WAt (K : PySem.W.Frag) (H : Hp) (ts : List Addr) (ws : List Wd) : Prop := Paired (fun t w => SqT K H t w.V) ts ws
theorem WAt.k {K : PySem.W.Frag} {H H' : Hp} {ts : List Addr} {ws : List Wd} (k : Kx H H') (h : WAt K H ts ws) : WAt K H' ts ws := by
  induction h with
  | nil => exact .nil
  | cons r t ih => exact .cons (k.t r) ih
/-- a list or a dict of ours is changed: the tuples stay -/
theorem st_up {K : PySem.W.Frag} {H : Hp} {r t : Addr} {o u : HO} {xs : List V} (hr : H r = some o) (n1 : ∀ ys, o ≠ .tup ys) (n2 : ∀ b v, o ≠ .frz b v) (h : SqT K H t xs) : SqT K (upd H r u) t xs := by
  rcases h with (h | ⟨b, h⟩) | h
  · refine .inl (.inl ?_)
    rw [upd_ne fun e => n1 xs (Option.some.inj (hr.symm.trans (by rw [← e]; exact h)))]
    exact h
  · refine .inl (.inr ⟨b, ?_⟩)
    rw [upd_ne fun e => n2 b _ (Option.some.inj (hr.symm.trans (by rw [← e]; exact h)))]
    exact h
  · exact .inr h
theorem WAt.up {K : PySem.W.Frag} {H : Hp} {r : Addr} {o u : HO} {ts : List Addr} {ws : List Wd} (hr : H r = some o) (n1 : ∀ ys, o ≠ .tup ys) (n2 : ∀ b v, o ≠ .frz b v) (h : WAt K H ts ws) : WAt K (upd H r u) ts ws := by
  induction h with
  | nil => exact .nil
  | cons q t ih => exact .cons (st_up hr n1 n2 q) ih
theorem paired_len {α β : Type} {F : α → β → Prop} : ∀ {xs : List α} {ys : List β}, Paired F xs ys → xs.length = ys.length
  | _, _, .nil => rfl
  | _, _, .cons _ t => congrArg Nat.succ (paired_len t)
theorem paired_at {α β : Type} {F : α → β → Prop} : ∀ {xs : List α} {ys : List β} {i : Nat} {x : α}, Paired F xs ys → xs[i]? = some x → ∃ y, ys[i]? = some y ∧ F x y
  | _, _, _, _, .nil, h => by simp at h
  | _, _, 0, _, .cons r _, h => by
    cases h
    exact ⟨_, rfl, r⟩
  | _, _, i + 1, x, .cons _ t, h => paired_at (i := i) (x := x) t (by simpa using h)
theorem paired_snoc {α β : Type} {F : α → β → Prop} {x : α} {y : β} : ∀ {xs : List α} {ys : List β}, Paired F xs ys → F x y → Paired F (xs ++ [x]) (ys ++ [y])
  | _, _, .nil, h => .cons h .nil
  | _, _, .cons r t, h => .cons r (paired_snoc t h)
/-- a list of words at l -/
def WsAt (K : PySem.W.Frag) (H : Hp) (l : Addr) (ws : List Wd) : Prop := ∃ ts, SqL K H l (ts.map V.ref) ∧ WAt K H ts ws
theorem WsAt.k {K : PySem.W.Frag} {H H' : Hp} {l : Addr} {ws : List Wd} (k : Kx H H') (h : WsAt K H l ws) : WsAt K H' l ws := by
  obtain ⟨ts, h1, h2⟩ := h
  exact ⟨ts, k.l h1, h2.k k⟩
end CH
end

section
set_option Elab.async false
set_option linter.all false
namespace CH
open PySem L2
def top (i : Nat) : Stmt := PySem.Challenge.pw_commonhour_k09_refused.main.body.getD i (.Pass ⟨0, 0, 0, 0⟩)
/-- what the head says of the module's names: built-ins are free, the constants -/
structure Tx (K : PySem.W.Frag) (mg : Str → Option Value) (aA : Addr) : Prop where
  z_ValueError : mg "ValueError" = none
  z_abs : mg "abs" = none
  z_all : mg "all" = none
  z_bool : mg "bool" = none
  z_int : mg "int" = none
  z_isinstance : mg "isinstance" = none
  z_len : mg "len" = none
  z_list : mg "list" = none
  z_min : mg "min" = none
  z_range : mg "range" = none
  z_sorted : mg "sorted" = none
  z_str : mg "str" = none
  z_tuple : mg "tuple" = none
  z_zip : mg "zip" = none
  c_MOST_WORDS : ∃ u, mg "MOST_WORDS" = some u ∧ RelV (.int 80) u
  c_MOST_MEETINGS : ∃ u, mg "MOST_MEETINGS" = some u ∧ RelV (.int 6) u
  c_COUNTS : ∃ u, mg "COUNTS" = some u ∧ RelV (.int 99) u
  c_HANDS : ∃ u, mg "HANDS" = some u ∧ RelV (.int 4) u
  c_PEOPLE : ∃ u, mg "PEOPLE" = some u ∧ RelV (.int 8) u
  c_HOURS : ∃ u, mg "HOURS" = some u ∧ RelV (.int 12) u
  c_ANSWERS : ∃ u, mg "ANSWERS" = some u ∧ RelV (.ref aA) u
  h_ANSWERS : ∀ H, SqT K H aA ((["yes", "maybe", "no"] : List Str).map V.str)
  c_YES : ∃ u, mg "YES" = some u ∧ RelV (.ref (He.ga K "YES")) u
  h_YES : ∀ H, SqT K H (He.ga K "YES") ((["yes"] : List Str).map V.str)
  c_YES_OR_MAYBE : ∃ u, mg "YES_OR_MAYBE" = some u ∧ RelV (.ref (He.ga K "YES_OR_MAYBE")) u
  h_YES_OR_MAYBE : ∀ H, SqT K H (He.ga K "YES_OR_MAYBE") ((["yes", "maybe"] : List Str).map V.str)
theorem Tx.hA {K : PySem.W.Frag} {mg : Str → Option Value} {aA : Addr} (T : Tx K mg aA) : ∀ H, SqT K H aA (ansL.map V.str) := T.h_ANSWERS
end CH
end

section
set_option Elab.async false
set_option linter.all false
set_option maxRecDepth 100000
set_option maxHeartbeats 0
namespace CH
open PySem PySem.Spec PyProof.Rows L2
open GxR (TabB TabG Tabbed)
def dd (x : Str) (st : Stmt) : He.DefD := ⟨(x, none), x, x, defArgs st, defBody st, defScope st, [], []⟩
def de (a : Str × Option Str) (x q : Str) (st : Stmt) (l : List He.Dv) : He.DefD := ⟨a, x, q, defArgs st, defBody st, defScope st, l, []⟩
def fn : List He.DefD := [dd "is_whole" (top 20), dd "is_number" (top 21), dd "is_hand" (top 22), dd "is_person" (top 23), dd "is_hour" (top 24), dd "is_answer" (top 25), dd "is_word" (top 26), dd "copied_words" (top 27), dd "each_once" (top 28), dd "checked_words" (top 29), dd "is_people" (top 30), dd "is_meeting" (top 31), dd "check_meeting" (top 32), dd "check_meetings" (top 33), dd "check_olds" (top 34), dd "check_hand" (top 35), dd "check_person" (top 36), dd "check_hour" (top 37), dd "check_answer" (top 38), dd "joined" (top 42), dd "answers_that_count" (top 43), dd "answer_of" (top 44), dd "can_be" (top 45), de ("hours_of", none) "hours_of" "hours_of" (top 46) [.glo "YES"], dd "hours_by" (top 47), dd "hours" (top 48), dd "hours_maybe" (top 49), dd "copied" (top 58), dd "not_coming" (top 62), dd "first" (top 63), dd "jump" (top 59), dd "jumps_of" (top 60), de ("Seats", some "__init__") "__init__" "Seats.__init__" (inClass (top 64) 0) [], de ("Seats", some "gap") "gap" "Seats.gap" (inClass (top 64) 1) [], de ("Seats", some "ways") "ways" "Seats.ways" (inClass (top 64) 2) [], de ("Seats", some "raise_prices") "raise_prices" "Seats.raise_prices" (inClass (top 64) 3) [], de ("Seats", some "hand_on") "hand_on" "Seats.hand_on" (inClass (top 64) 4) [], de ("Tight", some "__init__") "__init__" "Tight.__init__" (inClass (top 57) 0) [], de ("Seats", some "seat") "seat" "Seats.seat" (inClass (top 64) 5) [], de ("Moved", some "__init__") "__init__" "Moved.__init__" (inClass (top 56) 0) [], dd "table" (top 65), de ("At", some "__init__") "__init__" "At.__init__" (inClass (top 54) 0) [], de ("Barred", some "__init__") "__init__" "Barred.__init__" (inClass (top 55) 0) [], de ("Book", some "__init__") "__init__" "Book.__init__" (inClass (top 51) 0) [], de ("Book", some "answer") "answer" "Book.answer" (inClass (top 51) 1) [], de ("Book", some "hear") "hear" "Book.hear" (inClass (top 51) 2) [], de ("Book", some "all_words") "all_words" "Book.all_words" (inClass (top 51) 3) [], de ("Book", some "says") "says" "Book.says" (inClass (top 51) 4) [], dd "_law_refused" (top 67), dd "_law_each" (top 68), dd "_law_no_numbers" (top 69), dd "_law_no_words" (top 70), dd "_law_no_meetings" (top 71), dd "_law_tables_right" (top 72), dd "_law_book_right" (top 73), dd "law" (top 74)]
def fa : List He.Fa := [.glo "is_whole", .glo "is_number", .glo "is_hand", .glo "is_person", .glo "is_hour", .glo "is_answer", .glo "is_word", .glo "copied_words", .glo "each_once", .glo "checked_words", .glo "is_people", .glo "is_meeting", .glo "check_meeting", .glo "check_meetings", .glo "check_olds", .glo "check_hand", .glo "check_person", .glo "check_hour", .glo "check_answer", .glo "joined", .glo "answers_that_count", .glo "answer_of", .glo "can_be", .glo "hours_of", .glo "hours_by", .glo "hours", .glo "hours_maybe", .glo "copied", .glo "not_coming", .glo "first", .glo "jump", .glo "jumps_of", .glo "table", .glo "_law_refused", .glo "_law_each", .glo "_law_no_numbers", .glo "_law_no_words", .glo "_law_no_meetings", .glo "_law_tables_right", .glo "_law_book_right", .glo "law", .free "ValueError", .free "abs", .free "all", .free "bool", .free "int", .free "isinstance", .free "len", .free "list", .free "min", .free "range", .free "sorted", .free "str", .free "tuple", .free "zip", .int "MOST_WORDS" 80, .int "MOST_MEETINGS" 6, .int "COUNTS" 99, .int "HANDS" 4, .int "PEOPLE" 8, .int "HOURS" 12, .glo "ANSWERS", .glo "YES", .glo "YES_OR_MAYBE", .glo "At", .cls "At", .noat "At" "hour", .glo "Barred", .cls "Barred", .noat "Barred" "rows", .glo "Moved", .cls "Moved", .noat "Moved" "hours", .noat "Moved" "prices", .noat "Moved" "rents", .glo "Tight", .cls "Tight", .noat "Tight" "meetings", .noat "Tight" "hours", .glo "Seats", .cls "Seats", .noat "Seats" "jumps", .noat "Seats" "hours", .noat "Seats" "prices", .noat "Seats" "rents", .noat "Seats" "holders", .glo "Book", .cls "Book", .noat "Book" "_hand", .noat "Book" "_known", .mkr "Seats", .meth "Seats" "gap", .meth "Seats" "ways", .meth "Seats" "raise_prices", .meth "Seats" "hand_on", .mkr "Tight", .meth "Seats" "seat", .mkr "Moved", .mkr "At", .mkr "Barred", .mkr "Book", .meth "Book" "answer", .meth "Book" "hear", .meth "Book" "all_words", .meth "Book" "says", .glo "HourError", .exc "HourError", .glo "BadWords", .exc "BadWords", .glo "BadMeeting", .exc "BadMeeting", .glo "BadOlds", .exc "BadOlds", .glo "BadHand", .exc "BadHand", .glo "BadPerson", .exc "BadPerson", .glo "BadHour", .exc "BadHour", .glo "BadWord", .exc "BadWord", .glo "Unlike", .exc "Unlike", .glo "TooMany", .exc "TooMany", .exm "BadWords" "HourError" true, .exm "BadMeeting" "HourError" true, .exm "BadOlds" "HourError" true, .exm "BadHand" "HourError" true, .exm "BadPerson" "HourError" true, .exm "BadHour" "HourError" true, .exm "BadWord" "HourError" true, .exm "Unlike" "HourError" true, .exm "TooMany" "HourError" true]
def tf : List He.Defn := [("is_meeting", none), ("can_be", none), ("_law_tables_right", none), ("_law_book_right", none)]
def ex (K : PySem.W.Frag) : Bool := He.tupB K "ANSWERS" [.str "yes", .str "maybe", .str "no"] && (He.tupB K "YES" [.str "yes"] && (He.tupB K "YES_OR_MAYBE" [.str "yes", .str "maybe"] && (ownB K (He.ga K "At") && (ownB K (He.ga K "Barred") && (ownB K (He.ga K "Moved") && (ownB K (He.ga K "Tight") && (ownB K (He.ga K "Seats") && (ownB K (He.ga K "Book") && (excCB K (He.ga K "HourError") && (excCB K (He.ga K "BadWords") && (excCB K (He.ga K "BadMeeting") && (excCB K (He.ga K "BadOlds") && (excCB K (He.ga K "BadHand") && (excCB K (He.ga K "BadPerson") && (excCB K (He.ga K "BadHour") && (excCB K (He.ga K "BadWord") && (excCB K (He.ga K "Unlike") && (excCB K (He.ga K "TooMany") && (kitsB K ["BadWords", "BadMeeting", "BadOlds", "BadHand", "BadPerson", "BadHour", "BadWord", "Unlike", "TooMany"] && (kitsVB K ["BadWords", "BadMeeting", "BadOlds", "BadHand", "BadPerson", "BadHour", "BadWord", "Unlike", "TooMany"] && (farB K "_law_tables_right" "_law_book_right" && (farB K "is_meeting" "_law_tables_right" && (farB K "is_meeting" "_law_book_right" && (farB K "can_be" "_law_tables_right" && (farB K "can_be" "_law_book_right" && (true))))))))))))))))))))))))))
abbrev R : PySem.W.OpenRow := PySem.W.OpenLaw.row PySem.Challenge.rw_commonhour_k09_refused
abbrev hk : PySem.W.Hook := He.hookX 4 fa fn [] tf ex
/-- each once, what was seen kept as one number's digits -/
def seenAt (m a : Nat) : Bool := Nat.beq (Nat.land 1 (Nat.shiftRight m a)) 1
def onceF : List Addr → Nat → List Addr → List Addr
  | [], _, acc => acc.reverse
  | a :: r, m, acc => match seenAt m a with
    | true => onceF r m acc
    | false => HandSHeadRun.frNat (Nat.lor m (Nat.shiftLeft 1 a)) fun m' => onceF r m' (a :: acc)
theorem seenAt_eq (m a : Nat) : seenAt m a = m.testBit a := by
  have e : Nat.land 1 (Nat.shiftRight m a) = (m >>> a) % 2 := by
    show 1 &&& (m >>> a) = _
    rw [Nat.and_comm, Nat.and_one_is_mod]
  unfold seenAt
  rw [e]
  show _ = (1 &&& m >>> a != 0)
  rw [Nat.and_comm, Nat.and_one_is_mod]
  rcases Nat.mod_two_eq_zero_or_one (m >>> a) with z | z <;> rw [z] <;> rfl
theorem onceF_eq : ∀ (as bs : List Addr) (m : Nat), (∀ a, m.testBit a = bs.any fun b => a == b) → List.eraseDupsBy.loop (fun x y => x == y) as bs = onceF as m bs
  | [], bs, m, _ => by
    unfold onceF List.eraseDupsBy.loop
    rfl
  | a :: r, bs, m, h => by
    unfold onceF
    rw [List.eraseDupsBy.loop.eq_2, seenAt_eq, h a]
    cases bs.any fun b => a == b with
    | true => exact onceF_eq r bs m h
    | false =>
      show _ = HandSHeadRun.frNat _ _
      rw [HandSHeadRun.frNat_eq]
      refine onceF_eq r (a :: bs) _ fun b => ?_
      show (m ||| 1 <<< a).testBit b = _
      rw [Nat.testBit_or, h b, Nat.one_shiftLeft, Nat.testBit_two_pow, List.any_cons, Bool.or_comm]
      congr 1
      by_cases q : a = b
      · subst q
        simp
      · rw [decide_eq_false q]
        exact (beq_eq_false_iff_ne.mpr fun z => q z.symm).symm
def namesOf (g : Addr → Option Obj) (a : Addr) : List Addr := (g a).elim [] He.refsD
def reachF (g : Addr → Option Obj) : Nat → List Addr
  | 0 => [mainGlobals]
  | n + 1 => (fun as => onceF (as ++ as.flatMap (namesOf g)) 0 []) (reachF g n)
theorem reachF_eq (g : Addr → Option Obj) : ∀ n, reachF g n = He.asD g n
  | 0 => rfl
  | n + 1 => by
    show onceF (reachF g n ++ (reachF g n).flatMap (namesOf g)) 0 [] = He.growD g (He.asD g n)
    rw [reachF_eq g n]
    have e : namesOf g = fun a => match g a with
        | some o => He.refsD o
        | none => [] := by
      funext a
      unfold namesOf
      cases g a <;> rfl
    rw [e, ← onceF_eq _ [] 0 fun a => by rw [Nat.zero_testBit] <;> rfl]
    rfl
def obK (g : Addr → Option Obj) (K : PySem.W.Frag) : He.AlX := (He.obsT fa fn [] K, ex K && He.tabsB g tf K)
def ob (s : PySem.W.SharedT) : He.AlX := obK (HandSHeadRun.getT s) (He.frT (HandSHeadRun.getT s) (reachF (HandSHeadRun.getT s) 4))
theorem ob_eq (s : PySem.W.SharedT) : ob s = hk.obs s.abs := by
  unfold ob
  rw [reachF_eq]
  exact He.obsX_eq (n := 4) (HandSHeadRun.getT_eq s)
def loose : List Str := ([("_wall" : Str), ("HourError" : Str), ("BadWords" : Str), ("BadMeeting" : Str), ("BadOlds" : Str), ("BadHand" : Str), ("BadPerson" : Str), ("BadHour" : Str), ("BadWord" : Str), ("Unlike" : Str), ("TooMany" : Str), ("MOST_WORDS" : Str), ("MOST_MEETINGS" : Str), ("COUNTS" : Str), ("HANDS" : Str), ("PEOPLE" : Str), ("HOURS" : Str), ("ANSWERS" : Str), ("is_whole" : Str), ("is_number" : Str), ("is_hand" : Str), ("is_person" : Str), ("is_hour" : Str), ("is_answer" : Str), ("is_word" : Str), ("copied_words" : Str), ("each_once" : Str), ("checked_words" : Str), ("is_people" : Str), ("is_meeting" : Str)] : List Str) ++ ([("check_meeting" : Str), ("check_meetings" : Str), ("check_olds" : Str), ("check_hand" : Str), ("check_person" : Str), ("check_hour" : Str), ("check_answer" : Str), ("YES" : Str), ("YES_OR_MAYBE" : Str), ("joined" : Str), ("answers_that_count" : Str), ("answer_of" : Str), ("can_be" : Str), ("hours_of" : Str), ("hours_by" : Str), ("hours" : Str), ("hours_maybe" : Str), ("Book" : Str), ("Answer" : Str), ("At" : Str), ("Barred" : Str), ("Moved" : Str), ("Tight" : Str), ("copied" : Str), ("jump" : Str), ("jumps_of" : Str), ("not_coming" : Str), ("first" : Str), ("Seats" : Str), ("table" : Str)] : List Str) ++ ([("_law_refused" : Str), ("_law_each" : Str), ("_law_no_numbers" : Str), ("_law_no_words" : Str), ("_law_no_meetings" : Str), ("_law_tables_right" : Str), ("_law_book_right" : Str)] : List Str)
theorem tri3 {α β γ δ : Type} {o : Option α} {f : α → β} {g : α → γ} {h : α → δ} {x : β} {y : γ} {z : δ} (a : o.map f = some x) (b : o.map g = some y) (c : o.map h = some z) : o.map (fun s => (f s, g s, h s)) = some (x, y, z) := by
  cases o with
  | none => cases a
  | some s =>
    have e1 : f s = x := Option.some.inj a
    have e2 : g s = y := Option.some.inj b
    have e3 : h s = z := Option.some.inj c
    rw [← e1, ← e2, ← e3] <;> rfl
theorem run1 (w : World) (os : OsState) : (HandSHeadRun.endF (HandSHeadRun.stepQ (HandSHeadRun.denQ HandSHeadRun.tabQ) R.prog w) 12000 R.prog w os).map (fun s => HandSHeadRun.looksF R.prog (PySem.W.boot_heap w.params) s.abs) = some true := by
  kernel_rfl
theorem run2 (w : World) (os : OsState) : (HandSHeadRun.endF (HandSHeadRun.stepQ (HandSHeadRun.denQ HandSHeadRun.tabQ) R.prog w) 12000 R.prog w os).map (fun s => HandSHeadRun.seenQ (PySem.W.view R.prog [74]) loose (importedModules R.prog.main.body) (fun s => PySem.W.xlAt (PySem.W.view R.prog [74]) [] s && PySem.W.recOk R.toRowW.records s) s.abs) = some (PySem.W.openGood (PySem.W.view R.prog [74]) loose) := by
  kernel_rfl
theorem run3 (w : World) (os : OsState) : (HandSHeadRun.endF (HandSHeadRun.stepQ (HandSHeadRun.denQ HandSHeadRun.tabQ) R.prog w) 12000 R.prog w os).map (fun s => ob s) = some (hk.val w) := by
  kernel_rfl
theorem run (w : World) : HandSHeadRun.RunEq R (PySem.W.view R.prog [74]) hk ob 12000 loose w := fun os => tri3 (run1 w os) (run2 w os) (run3 w os)
end CH
end

section
set_option Elab.async false
set_option linter.all false
set_option maxRecDepth 100000
set_option maxHeartbeats 4000000
namespace CH
open PySem PySem.Spec PyProof.Rows L2
/-- [φ for i, x in enumerate(xs)] -/
theorem lc_enumF {K : PySem.W.Frag} {a : Addr} {xs : List V} {s1 s2 : Nat} {te : TE} {vs : List Nat} {σ : L2.St} {H0 : Hp} {D : Addr} {Qd : Hp → Prop} (φ : Nat → V) (h4 : xs.length ≤ 4000) (ha : SqL K H0 a xs) (nD : H0 D = none)
    (hw : ∀ x y, wipe (((wipe σ vs).set s1 (some x)).set s2 (some y)) vs = wipe σ vs)
    (hs : ∀ (i : Nat) (x : V) (T : Addr) (H3 : Hp), xs[i]? = some x → Kx H0 H3 → H3 T = none → ∀ Q : VK, (∀ H4, Kx (upd H3 T (.tup [.int (i : Nat), x])) H4 → Q (φ i) H4) → te (((wipe σ vs).set s1 (some (.int (i : Nat)))).set s2 (some x)) (upd H3 T (.tup [.int (i : Nat), x])) Q)
    (hd : ∀ H3, Kx H0 H3 → H3 D = some (.lst ((List.range xs.length).map φ)) → Qd H3) :
    ∃ W : Nat → Nat → Hp → Prop, (∃ m, W 0 m (upd H0 D (.lst []))) ∧ ∀ i1 m H, W i1 m H →
      ((Ite K a).stop i1 H ∧ Qd H) ∨ ((Ite K a).go i1 H ∧ ∃ Nx : Hp → Prop, (∀ H', Nx H' → ∃ m', m' < m ∧ W (i1 + 1) m' H') ∧ ∀ x H', (Ite K a).yld i1 H x H' → gTup K 2 (gCons (gName s1) (gCons (gName s2) gNil)) x (wipe σ vs) H' fun σ2 H2 => wipe σ2 vs = wipe σ vs ∧ tYes σ2 H2 fun b H3 =>
        if b = true then te σ2 H3 fun y H4 => ∃ acc, H4 D = some (.lst acc) ∧ acc.length < sizeLine ∧ Nx (upd H4 D (.lst (acc ++ [y]))) else Nx H3) := by
  refine ⟨fun i m H => m = xs.length - i ∧ i ≤ xs.length ∧ Kx H0 H ∧ H D = some (.lst ((List.range i).map φ)), ⟨xs.length, rfl, Nat.zero_le _, Kx.new nD, upd_same⟩, ?_⟩
  rintro i m H ⟨rfl, hi, k3, hD⟩
  have qx := k3.l ha
  by_cases hlt : i < xs.length
  · have hx : xs[i]? = some xs[i] := List.getElem?_eq_getElem hlt
    refine .inr ⟨⟨xs, _, qx, hx⟩, fun H' => Kx H0 H' ∧ H' D = some (.lst ((List.range (i + 1)).map φ)), fun H' p' => ⟨xs.length - (i + 1), by omega, rfl, hlt, p'.1, p'.2⟩, fun v H' y => ?_⟩
    obtain ⟨T, x', rfl, hT, rfl, f1⟩ := y
    have ht : (upd H T (.tup [.int (i : Nat), x'])) T = some (.tup [.int (i : Nat), x']) := upd_same
    have kT : Kx H (upd H T (.tup [.int (i : Nat), x'])) := Kx.new hT
    refine ⟨T, _, rfl, st_of ht, rfl, _, _, rfl, _, _, rfl, rfl, hw _ x', yesT ?_⟩
    refine hs i x' T H (f1 xs qx) k3 hT _ fun H4 k4 => ⟨_, (kT.trans k4).lst hD, ?_, ((k3.trans kT).trans k4).mut nD, ?_⟩
    · rw [List.length_map, List.length_range]
      exact lt80 (by omega)
    · rw [upd_same, List.range_succ, List.map_append] <;> rfl
  · have e : i = xs.length := by omega
    subst e
    exact .inl ⟨⟨xs, qx, Nat.le_refl _⟩, hd H k3 hD⟩
/-- an object just made, its field stored -/
theorem Kx.made {H0 H1 : Hp} {x dx C : Addr} {fs fs' : List (Str × V)} (nx : H0 x = none) (ndx : H0 dx = none) (k : Kx (upd (upd H0 dx (.own x)) x (.ins C dx fs)) H1) : Kx H0 (upd H1 x (.ins C dx fs')) := by
  refine Kx.mut (Kx.trans ?_ k) nx
  exact (Kx.new ndx).mut nx
section
variable {P : Program} {w : World} {K : PySem.W.Frag} {mg : Str → Option Value} {base : Heap}
theorem fnok_of {x : Str} {st : Stmt} {f c : Addr} {fd : FuncData} {N ps : List Str} {k : Nat} {sp : Sp} (F : FnT K x st f fd) (hc : ∀ oc od osl fd', K.lookup f = some ⟨oc, od, .func fd', osl⟩ → fd'.code = .ref c) (S : FnScope N ps (defScope st))
    (len : ∀ vs H Q E, sp vs H Q E → vs.length = ps.length)
    (hbody : ∀ (A : Around) (outer : List Env) (s : Shared) (H : Hp) (vs : List V) (Q : VK) (E : XK), Room k (A.deeper (envOfC x (defScope st) s.heap.objs.size f (.ref c))) → sp vs H Q E →
      ∃ t, PSs (cxOf CX0 P w K mg base N x (defScope st) f (.ref c) A outer s H E).nox (defBody st) t ∧ t { nx := fun _ H' => Q .non H', rt := Q } (start N vs) H) : FnOk P w K mg base CX0 (k + 1) f fd ps sp := by
  obtain ⟨oc, od, dV, kV, doc, pm, an, cdv, ct, osl, rfl, lk, hcd, _, _⟩ := F.ex
  obtain rfl : cdv = .ref c := hc _ _ _ _ lk
  refine fn_of lk hcd S len fun A outer s H vs Q E hr hsp => ?_
  obtain ⟨t, h, q⟩ := hbody A outer s H vs Q E hr hsp
  exact ⟨t, h.nox, q⟩
end
/-- a weaker promise -/
theorem Cal.weak {P : Program} {w : World} {K : PySem.W.Frag} {mg : Str → Option Value} {base : Heap} {k : Nat} {x : Str} {sp sp' : Sp} {dvs : List V} (c : C8.Cal P w K mg base k x sp dvs) (h : ∀ vs H Q E, sp' vs H Q E → sp vs H Q E) : C8.Cal P w K mg base k x sp' dvs := by
  obtain ⟨f, fd, ps, ds, F, hm, kp, b, d⟩ := c.ex
  exact ⟨f, fd, ps, ds, ⟨fun vs H Q E q => F.len vs H Q E (h _ _ _ _ q), fun A outer s H args us vs Q E hr he hb hv hs => F.run A outer s H args us vs Q E hr he hb hv (h _ _ _ _ hs)⟩, hm, kp, b, d⟩
def rListOf (K : PySem.W.Frag) : List V → Hp → VK → Prop := fun xs H Q => ∃ p ys, xs = [V.ref p] ∧ (SqL K H p ys ∨ SqT K H p ys) ∧ ∀ l : Addr, H l = none → Q (V.ref l) (upd H l (.lst ys))
end CH
end

section
set_option Elab.async false
set_option linter.all false
set_option maxRecDepth 100000
namespace CH
open PySem PySem.Spec PyProof.Rows L2
/-! ### words once, in order -/
def plt (a b : Wd) : Prop := a.c < b.c ∨ (a.c = b.c ∧ a.h < b.h)
structure Once (ws us : List Wd) : Prop where
  mem : ∀ x, x ∈ us ↔ x ∈ ws
  ord : us.Pairwise plt
def Alike (ws : List Wd) : Prop := ∀ a ∈ ws, ∀ b ∈ ws, a.c = b.c → a.h = b.h → a = b
/-- tracked tuples -/
def TAt (H : Hp) (ts : List Addr) (ws : List Wd) : Prop := Paired (fun t w => H t = some (.tup w.V)) ts ws
theorem TAt.k {H H' : Hp} {ts : List Addr} {ws : List Wd} (k : Kx H H') (h : TAt H ts ws) : TAt H' ts ws := by
  induction h with
  | nil => exact .nil
  | cons r t ih => exact .cons (k.tup r) ih
theorem TAt.w {K : PySem.W.Frag} {H : Hp} {ts : List Addr} {ws : List Wd} (h : TAt H ts ws) : WAt K H ts ws := by
  induction h with
  | nil => exact .nil
  | cons r t ih => exact .cons (st_of r) ih
theorem TAt.up {H : Hp} {r : Addr} {o u : HO} {ts : List Addr} {ws : List Wd} (hr : H r = some o) (n1 : ∀ ys, o ≠ .tup ys) (h : TAt H ts ws) : TAt (upd H r u) ts ws := by
  induction h with
  | nil => exact .nil
  | cons q t ih =>
    refine .cons ?_ ih
    rw [upd_ne fun e => n1 _ (Option.some.inj (hr.symm.trans (by rw [← e]; exact q)))]
    exact q
def Wd.ints (w : Wd) : List Int := [w.c, w.h, w.p, w.o]
def wkOf (H : Hp) (t : Addr) : List Int × Str := match H t with
  | some (.tup [.int a, .int b, .int c, .int d, .str z]) => ([a, b, c, d], z)
  | _ => ([], "")
theorem wkOf_eq {H : Hp} {t : Addr} {w : Wd} (h : H t = some (.tup w.V)) : wkOf H t = (w.ints, w.a) := by
  unfold wkOf
  rw [h] <;> rfl
theorem wdV_ints (w : Wd) : wdV (w.ints, w.a) = w.V := rfl
/-- the words of the pairs stand at their places -/
def PAt (H : Hp) (qs : List (Addr × Wd)) : Prop := ∀ q ∈ qs, H q.1 = some (.tup q.2.V)
theorem PAt.k {H H' : Hp} {qs : List (Addr × Wd)} (k : Kx H H') (h : PAt H qs) : PAt H' qs := fun q hq => k.tup (h q hq)
theorem PAt.up {H : Hp} {r : Addr} {o u : HO} {qs : List (Addr × Wd)} (hr : H r = some o) (n1 : ∀ ys, o ≠ .tup ys) (h : PAt H qs) : PAt (upd H r u) qs := fun q hq => by
  rw [upd_ne fun e => n1 _ (Option.some.inj (hr.symm.trans (by rw [← e]; exact h q hq)))]
  exact h q hq
def kW (w : Wd) : List Key := [Sum.inl w.c, Sum.inl w.h]
theorem kW_inj {a b : Wd} (h : kW a = kW b) : a.c = b.c ∧ a.h = b.h := by
  unfold kW at h
  injection h with h1 h2
  injection h2 with h2 _
  exact ⟨Sum.inl.inj h1, Sum.inl.inj h2⟩
def entW (q : Addr × Wd) : List Key × V := (kW q.2, .ref q.1)
theorem valV_entW {w : Wd} : ∀ {qs : List (Addr × Wd)}, (∃ q ∈ qs, kW q.2 = kW w ∧ valV (qs.map entW) (kW w) = some (.ref q.1)) ∨ ((∀ q ∈ qs, kW q.2 ≠ kW w) ∧ valV (qs.map entW) (kW w) = none)
  | [] => .inr ⟨fun q h => absurd h (by simp), rfl⟩
  | q :: qs => by
    by_cases e : kW q.2 = kW w
    · refine .inl ⟨q, List.mem_cons_self, e, ?_⟩
      rw [List.map_cons, valV_pos (p := entW q) e] <;> rfl
    · rcases valV_entW (w := w) (qs := qs) with ⟨p, hp, h1, h2⟩ | ⟨h1, h2⟩
      · refine .inl ⟨p, List.mem_cons_of_mem _ hp, h1, ?_⟩
        rw [List.map_cons, valV_neg (p := entW q) e, h2]
      · refine .inr ⟨fun p hp => ?_, ?_⟩
        · rcases List.mem_cons.mp hp with rfl | hp
          · exact e
          · exact h1 p hp
        · rw [List.map_cons, valV_neg (p := entW q) e, h2]
/-- what was kept so far of ws -/
structure Kept (qs : List (Addr × Wd)) (ws : List Wd) : Prop where
  mem : ∀ x, x ∈ qs.map (·.2) ↔ x ∈ ws
  nd : qs.Pairwise fun a b => kW a.2 ≠ kW b.2
theorem Kept.nil : Kept [] [] := ⟨fun x => by simp, List.Pairwise.nil⟩
theorem Kept.same {qs : List (Addr × Wd)} {ws : List Wd} {x : Wd} (k : Kept qs ws) (h : x ∈ qs.map (·.2)) : Kept qs (ws ++ [x]) := by
  refine ⟨fun y => ?_, k.nd⟩
  rw [List.mem_append, List.mem_singleton]
  constructor
  · intro hy
    exact .inl ((k.mem y).mp hy)
  · rintro (hy | rfl)
    · exact (k.mem y).mpr hy
    · exact h
theorem Kept.more {qs : List (Addr × Wd)} {ws : List Wd} {q : Addr × Wd} (k : Kept qs ws) (h : ∀ p ∈ qs, kW p.2 ≠ kW q.2) : Kept (qs ++ [q]) (ws ++ [q.2]) := by
  refine ⟨fun y => ?_, List.pairwise_append.mpr ⟨k.nd, List.pairwise_singleton _ _, fun a ha b hb => ?_⟩⟩
  · rw [List.map_append, List.mem_append, List.mem_append, k.mem y]
    rfl
  · rw [List.mem_singleton.mp hb]
    exact h a ha
/-- sorted: once -/
theorem once_of {H : Hp} {qs : List (Addr × Wd)} {ws : List Wd} {ts' : List Addr} (k : Kept qs ws) (hp : PAt H qs) (p : ts'.Perm (qs.map (·.1))) (s : ts'.Pairwise fun x y => HT.lexLt (keyOf (wkOf H) y) (keyOf (wkOf H) x) = false) :
    ∃ us, TAt H ts' us ∧ Once ws us := by
  -- the pairs in the order of ts'
  obtain ⟨rs, pr, er⟩ := perm_lift (fun q : Addr × Wd => q.1) p qs rfl
  subst er
  have hr : ∀ q ∈ rs, H q.1 = some (.tup q.2.V) := fun q hq => hp q (pr.mem_iff.mp hq)
  have nd : rs.Pairwise fun a b => kW a.2 ≠ kW b.2 := (pr.pairwise_iff (fun h z => h z.symm)).mpr k.nd
  refine ⟨rs.map (·.2), ?_, fun x => ?_, ?_⟩
  · have all : ∀ l : List (Addr × Wd), (∀ q ∈ l, H q.1 = some (.tup q.2.V)) → TAt H (l.map (·.1)) (l.map (·.2)) := by
      intro l
      induction l with
      | nil => intro _; exact .nil
      | cons q l ih => intro h; exact .cons (h q List.mem_cons_self) (ih fun p hp => h p (List.mem_cons_of_mem _ hp))
    exact all rs hr
  · rw [← k.mem x]
    exact (pr.map (·.2)).mem_iff
  · rw [List.pairwise_map] at s ⊢
    refine List.Pairwise.imp_of_mem (fun {a b} ha hb h => ?_) (s.and nd)
    obtain ⟨h1, h2⟩ := h
    have ea := wkOf_eq (hr a ha)
    have eb := wkOf_eq (hr b hb)
    have h1' : HT.lexLt (wkey b.2.ints b.2.a) (wkey a.2.ints a.2.a) = false := by
      have z : HT.lexLt (keyOf (wkOf H) b.1) (keyOf (wkOf H) a.1) = false := h1
      unfold keyOf at z
      rw [ea, eb] at z
      exact z
    have h1'' : HT.lexLt (b.2.c :: b.2.h :: b.2.p :: b.2.o :: strInts b.2.a) (a.2.c :: a.2.h :: a.2.p :: a.2.o :: strInts a.2.a) = false := h1'
    rw [HT.lexLt_cons] at h1''
    by_cases e : b.2.c = a.2.c
    · rw [if_pos e, HT.lexLt_cons] at h1''
      by_cases e2 : b.2.h = a.2.h
      · exact absurd (by unfold kW; rw [e, e2] : kW a.2 = kW b.2) h2
      · rw [if_neg e2] at h1''
        have := of_decide_eq_false h1''
        exact .inr ⟨e.symm, by omega⟩
    · rw [if_neg e] at h1''
      have := of_decide_eq_false h1''
      exact .inl (by omega)
/-! ### words, lists of ints as data -/
def wdD (w : Wd) : PyData := .tuple [.int w.c, .int w.h, .int w.p, .int w.o, .str w.a]
theorem wdD_dp {K : PySem.W.Frag} {H : Hp} {t : Addr} {w : Wd} (h : SqT K H t w.V) : Dp K H (.ref t) (wdD w) := .tup h (.cons (.int _) (.cons (.int _) (.cons (.int _) (.cons (.int _) (.cons (.str _) .nil)))))
theorem beq_str (x y : Str) : (x == y) = decide (x = y) := by
  by_cases h : x = y
  · subst h; simp
  · rw [decide_eq_false h]
    exact beq_eq_false_iff_ne.mpr h
theorem wdD_eqv (a b : Wd) : PyData.eqv (wdD a) (wdD b) = decide (a = b) := by
  obtain ⟨a1, a2, a3, a4, a5⟩ := a
  obtain ⟨b1, b2, b3, b4, b5⟩ := b
  have e : PyData.eqv (wdD ⟨a1, a2, a3, a4, a5⟩) (wdD ⟨b1, b2, b3, b4, b5⟩) = ((a1 == b1) && ((a2 == b2) && ((a3 == b3) && ((a4 == b4) && ((a5 == b5) && true))))) := rfl
  rw [e, Bool.eq_iff_iff, decide_eq_true_eq]
  simp
theorem ans_ok {a : Str} (h : a ∈ ansL) : PyData.strOk a = true := by
  unfold ansL at h
  rcases List.mem_cons.mp h with rfl | h
  · decide +kernel
  · rcases List.mem_cons.mp h with rfl | h
    · decide +kernel
    · rw [List.mem_singleton.mp h]
      decide +kernel
theorem wdD_lay {w : Wd} (h : w.a ∈ ansL) : (wdD w).canLay0 = true := by
  simp only [wdD, PyData.canLay0, PyData.canLayAll0, ans_ok h, Bool.and_self]
theorem wdD_depth (w : Wd) : (wdD w).depth = 1 := by
  simp [wdD, PyData.depth, PyData.depthAll]
theorem wdD_sh {w : Wd} (h : w.a ∈ ansL) : SeqAt.shaped (wdD w) = true := by
  unfold SeqAt.shaped
  rw [wdD_lay h, wdD_depth]
  rfl
/-- a list of words -/
def wsD (ws : List Wd) : PyData := .list (ws.map wdD)
theorem eqvAll_map {α : Type} [DecidableEq α] {f : α → PyData} (hf : ∀ a b, PyData.eqv (f a) (f b) = decide (a = b)) : ∀ xs ys : List α, PyData.eqvAll (xs.map f) (ys.map f) = decide (xs = ys)
  | [], [] => rfl
  | [], _ :: _ => rfl
  | _ :: _, [] => rfl
  | x :: xs, y :: ys => by
    have e : PyData.eqvAll ((x :: xs).map f) ((y :: ys).map f) = (PyData.eqv (f x) (f y) && PyData.eqvAll (xs.map f) (ys.map f)) := rfl
    rw [e, hf, eqvAll_map hf xs ys, Bool.eq_iff_iff]
    simp
theorem wsD_eqv (xs ys : List Wd) : PyData.eqv (wsD xs) (wsD ys) = decide (xs = ys) := eqvAll_map wdD_eqv xs ys
theorem wsD_dp {K : PySem.W.Frag} {H : Hp} {l : Addr} {ws : List Wd} (h : WsAt K H l ws) : Dp K H (.ref l) (wsD ws) := by
  obtain ⟨ts, h1, h2⟩ := h
  refine .lst h1 ?_
  clear h1
  induction h2 with
  | nil => exact .nil
  | cons r t ih => exact .cons (wdD_dp r) ih
theorem wsD_sh {ws : List Wd} (h : ∀ x ∈ ws, x.ok) : SeqAt.shaped (wsD ws) = true := by
  have lay : ∀ l : List Wd, (∀ x ∈ l, x.ok) → PyData.canLayAll0 (l.map wdD) = true := by
    intro l
    induction l with
    | nil => intro _; rfl
    | cons x l ih =>
      intro h
      obtain ⟨_, _, _, _, _, _, _, _, ha⟩ := h x List.mem_cons_self
      simp only [List.map_cons, PyData.canLayAll0, wdD_lay ha, ih fun y hy => h y (List.mem_cons_of_mem _ hy), Bool.and_self]
  have dep : ∀ l : List Wd, PyData.depthAll (l.map wdD) ≤ 1 := by
    intro l
    induction l with
    | nil => simp [PyData.depthAll]
    | cons x l ih =>
      simp only [List.map_cons, PyData.depthAll, wdD_depth]
      omega
  unfold SeqAt.shaped wsD
  have e1 : (PyData.list (ws.map wdD)).canLay0 = true := by
    simp only [PyData.canLay0]
    exact lay ws h
  have e2 : (PyData.list (ws.map wdD)).depth ≤ 64 := by
    simp only [PyData.depth]
    have := dep ws
    omega
  rw [e1, decide_eq_true e2]
  rfl
/-- a list of ints -/
def isD (ns : List Int) : PyData := .list (ns.map PyData.int)
theorem int_eqv (a b : Int) : PyData.eqv (.int a) (.int b) = decide (a = b) := by
  have e : PyData.eqv (.int a) (.int b) = (a == b) := rfl
  rw [e, Bool.eq_iff_iff]
  simp
theorem isD_eqv (xs ys : List Int) : PyData.eqv (isD xs) (isD ys) = decide (xs = ys) := eqvAll_map int_eqv xs ys
theorem ints_dp {K : PySem.W.Frag} {H : Hp} : ∀ ns : List Int, DpAll K H (ns.map V.int) (ns.map PyData.int)
  | [] => .nil
  | n :: ns => .cons (.int n) (ints_dp ns)
theorem isD_dp {K : PySem.W.Frag} {H : Hp} {l : Addr} {ns : List Int} (h : SqL K H l (ns.map V.int)) : Dp K H (.ref l) (isD ns) := .lst h (ints_dp ns)
theorem ints_lay : ∀ ns : List Int, PyData.canLayAll0 (ns.map PyData.int) = true
  | [] => rfl
  | n :: ns => by simp only [List.map_cons, PyData.canLayAll0, PyData.canLay0, ints_lay ns, Bool.and_self]
theorem ints_depth : ∀ ns : List Int, PyData.depthAll (ns.map PyData.int) = 0
  | [] => rfl
  | n :: ns => by simp only [List.map_cons, PyData.depthAll, PyData.depth, ints_depth ns, Nat.max_self]
theorem isD_sh (ns : List Int) : SeqAt.shaped (isD ns) = true := by
  unfold SeqAt.shaped isD
  simp only [PyData.canLay0, ints_lay, PyData.depth, ints_depth]
  rfl
end CH
end

section
set_option Elab.async false
set_option linter.all false
set_option maxRecDepth 100000
namespace CH
open PySem PySem.Spec PyProof.Rows L2
/-! ### meetings -/
/-- people rise, from b + 1 on, to 7 -/
def Rise : Int → List Int → Prop
  | _, [] => True
  | b, n :: ns => b + 1 ≤ n ∧ n ≤ 7 ∧ Rise n ns
structure Mt where
  ps : List Int
  e : Int
  nds : List Int
structure Mt.ok (m : Mt) : Prop where
  p : Rise (-1) m.ps
  n : Rise (-1) m.nds
  e1 : 1 ≤ m.e
  e2 : m.e ≤ m.ps.length
  sub : ∀ x ∈ m.nds, x ∈ m.ps
/-- a meeting at a -/
structure MAt (K : PySem.W.Frag) (H : Hp) (a : Addr) (m : Mt) : Prop where
  ex : ∃ p n, SqT K H a [.ref p, .int m.e, .ref n] ∧ SqT K H p (m.ps.map V.int) ∧ SqT K H n (m.nds.map V.int)
theorem MAt.k {K : PySem.W.Frag} {H H' : Hp} {a : Addr} {m : Mt} (k : Kx H H') (h : MAt K H a m) : MAt K H' a m := by
  obtain ⟨p, n, h1, h2, h3⟩ := h.ex
  exact ⟨p, n, k.t h1, k.t h2, k.t h3⟩
theorem rise_len : ∀ {b : Int} {ns : List Int}, -1 ≤ b → Rise b ns → (ns.length : Int) ≤ 7 - b ∨ ns = []
  | _, [], _, _ => .inr rfl
  | b, n :: ns, hb, h => by
    obtain ⟨h1, h2, h3⟩ := h
    rcases rise_len (by omega) h3 with h | rfl
    · refine .inl ?_
      rw [List.length_cons]
      omega
    · refine .inl ?_
      show ((0 + 1 : Nat) : Int) ≤ 7 - b
      omega
theorem rise_len8 {ns : List Int} (h : Rise (-1) ns) : ns.length ≤ 8 := by
  rcases rise_len (by omega) h with h | rfl
  · omega
  · exact Nat.zero_le _
theorem rise_at : ∀ {b : Int} {ns : List Int} {i : Nat} {x : Int}, Rise b ns → ns[i]? = some x → (∀ y, (b :: ns)[i]? = some y → y + 1 ≤ x) ∧ x ≤ 7
  | b, n :: ns, 0, x, h, e => by
    cases e
    refine ⟨fun y hy => ?_, h.2.1⟩
    cases hy
    exact h.1
  | b, n :: ns, i + 1, x, h, e => by
    have e' : ns[i]? = some x := by simpa using e
    have ih := rise_at h.2.2 e'
    refine ⟨fun y hy => ih.1 y ?_, ih.2⟩
    simpa using hy
/-! ### answers -/
/-- the last word's answer -/
def lastA (us : List Wd) (p o : Int) : Option Str := us.foldl (fun b w => if w.p = p ∧ w.o = o then some w.a else b) none
theorem lastA_snoc (us : List Wd) (w : Wd) (p o : Int) : lastA (us ++ [w]) p o = if w.p = p ∧ w.o = o then some w.a else lastA us p o := by
  unfold lastA
  rw [List.foldl_append] <;> rfl
/-- the greatest word so far, for a person and an hour -/
def ple (a b : Wd) : Prop := a.c < b.c ∨ (a.c = b.c ∧ a.h ≤ b.h)
instance (a b : Wd) : Decidable (ple a b) := by unfold ple; exact inferInstance
/-- the word that counts -/
structure Best (ws : List Wd) (p o : Int) (x : Wd) : Prop where
  m : x ∈ ws
  ep : x.p = p
  eo : x.o = o
  top : ∀ y ∈ ws, y.p = p → y.o = o → ple y x
/-- the answer that counts, if there is a word -/
def IsAns (ws : List Wd) (p o : Int) (r : Option Str) : Prop := (∃ x, Best ws p o x ∧ r = some x.a) ∨ ((∀ y ∈ ws, ¬ (y.p = p ∧ y.o = o)) ∧ r = none)
theorem best_uniq {ws : List Wd} {p o : Int} {x y : Wd} (al : Alike ws) (h1 : Best ws p o x) (h2 : Best ws p o y) : x = y := by
  have a := h1.top y h2.m h2.ep h2.eo
  have b := h2.top x h1.m h1.ep h1.eo
  unfold ple at a b
  exact al x h1.m y h2.m (by omega) (by omega)
theorem isAns_uniq {ws : List Wd} {p o : Int} {r s : Option Str} (al : Alike ws) (h1 : IsAns ws p o r) (h2 : IsAns ws p o s) : r = s := by
  rcases h1 with ⟨x, hx, rfl⟩ | ⟨hn, rfl⟩
  · rcases h2 with ⟨y, hy, rfl⟩ | ⟨hn, rfl⟩
    · rw [best_uniq al hx hy]
    · exact absurd ⟨hx.ep, hx.eo⟩ (hn x hx.m)
  · rcases h2 with ⟨y, hy, rfl⟩ | ⟨_, rfl⟩
    · exact absurd ⟨hy.ep, hy.eo⟩ (hn y hy.m)
    · rfl
theorem lastA_is {us : List Wd} (h : us.Pairwise plt) (p o : Int) : IsAns us p o (lastA us p o) := by
  have key : ∀ n, ∀ us : List Wd, us.length = n → us.Pairwise plt → IsAns us p o (lastA us p o) := by
    intro n
    induction n with
    | zero =>
      intro us e _
      have e0 : us = [] := List.eq_nil_of_length_eq_zero e
      subst e0
      exact .inr ⟨fun y hy => absurd hy (by simp), rfl⟩
    | succ n ih =>
      intro us e hp
      have hne : us ≠ [] := fun z => by rw [z] at e; cases e
      obtain ⟨vs, w, rfl⟩ : ∃ vs w, us = vs ++ [w] := ⟨us.dropLast, us.getLast hne, (List.dropLast_concat_getLast hne).symm⟩
      have hl : vs.length = n := by
        rw [List.length_append] at e
        exact Nat.succ.inj e
      obtain ⟨h1, _, h3⟩ := List.pairwise_append.mp hp
      have ih := ih vs hl h1
      rw [lastA_snoc]
      by_cases hw : w.p = p ∧ w.o = o
      · rw [if_pos hw]
        refine .inl ⟨w, ⟨by simp, hw.1, hw.2, fun y hy _ _ => ?_⟩, rfl⟩
        rcases List.mem_append.mp hy with hy | hy
        · have q := h3 y hy w (by simp)
          unfold plt at q
          unfold ple
          omega
        · rw [List.mem_singleton.mp hy]
          unfold ple
          omega
      · rw [if_neg hw]
        rcases ih with ⟨x, hx, ex⟩ | ⟨hn, ex⟩
        · refine .inl ⟨x, ⟨List.mem_append_left _ hx.m, hx.ep, hx.eo, fun y hy e1 e2 => ?_⟩, ex⟩
          rcases List.mem_append.mp hy with hy | hy
          · exact hx.top y hy e1 e2
          · rw [List.mem_singleton.mp hy] at e1 e2
            exact absurd ⟨e1, e2⟩ hw
        · refine .inr ⟨fun y hy => ?_, ex⟩
          rcases List.mem_append.mp hy with hy | hy
          · exact hn y hy
          · rw [List.mem_singleton.mp hy]
            exact hw
  exact key _ us rfl h
theorem isAns_once {ws us : List Wd} {p o : Int} {r : Option Str} (ho : Once ws us) (h : IsAns us p o r) : IsAns ws p o r := by
  rcases h with ⟨x, hx, e⟩ | ⟨hn, e⟩
  · exact .inl ⟨x, ⟨(ho.mem x).mp hx.m, hx.ep, hx.eo, fun y hy => hx.top y ((ho.mem y).mpr hy)⟩, e⟩
  · exact .inr ⟨fun y hy => hn y ((ho.mem y).mpr hy), e⟩
def pleO (b : Option Wd) (w : Wd) : Prop := match b with
  | some x => ple x w
  | none => True
instance (b : Option Wd) (w : Wd) : Decidable (pleO b w) := by
  cases b with
  | none => exact isTrue trivial
  | some x => exact (inferInstance : Decidable (ple x w))
/-- the law's own way: the words as they come -/
def bestW (ws : List Wd) (p o : Int) : Option Wd := ws.foldl (fun b w => if w.p = p ∧ w.o = o ∧ pleO b w then some w else b) none
theorem bestW_snoc (us : List Wd) (w : Wd) (p o : Int) : bestW (us ++ [w]) p o = if w.p = p ∧ w.o = o ∧ pleO (bestW us p o) w then some w else bestW us p o := by
  unfold bestW
  rw [List.foldl_append]
  rfl
def ansW (ws : List Wd) (p o : Int) : Option Str := (bestW ws p o).map (·.a)
theorem bestW_is (p o : Int) : ∀ ws : List Wd, match bestW ws p o with
    | some x => Best ws p o x
    | none => ∀ y ∈ ws, ¬ (y.p = p ∧ y.o = o) := by
  have key : ∀ n, ∀ us : List Wd, us.length = n → match bestW us p o with
    | some x => Best us p o x
    | none => ∀ y ∈ us, ¬ (y.p = p ∧ y.o = o) := by
    intro n
    induction n with
    | zero =>
      intro us e
      have e0 : us = [] := List.eq_nil_of_length_eq_zero e
      subst e0
      show ∀ y ∈ ([] : List Wd), ¬ (y.p = p ∧ y.o = o)
      exact fun y hy => absurd hy (by simp)
    | succ n ih =>
      intro us e
      have hne : us ≠ [] := fun z => by rw [z] at e; cases e
      obtain ⟨vs, w, rfl⟩ : ∃ vs w, us = vs ++ [w] := ⟨us.dropLast, us.getLast hne, (List.dropLast_concat_getLast hne).symm⟩
      have hl : vs.length = n := by
        rw [List.length_append] at e
        exact Nat.succ.inj e
      have ih := ih vs hl
      rw [bestW_snoc]
      cases hb : bestW vs p o with
      | none =>
        rw [hb] at ih
        have ih : ∀ y ∈ vs, ¬ (y.p = p ∧ y.o = o) := ih
        by_cases hw : w.p = p ∧ w.o = o
        · rw [if_pos ⟨hw.1, hw.2, trivial⟩]
          refine (⟨by simp, hw.1, hw.2, fun y hy e1 e2 => ?_⟩ : Best (vs ++ [w]) p o w)
          rcases List.mem_append.mp hy with hy | hy
          · exact absurd ⟨e1, e2⟩ (ih y hy)
          · rw [List.mem_singleton.mp hy]
            unfold ple
            omega
        · rw [if_neg (fun z => hw ⟨z.1, z.2.1⟩)]
          show ∀ y ∈ vs ++ [w], ¬ (y.p = p ∧ y.o = o)
          intro y hy
          rcases List.mem_append.mp hy with hy | hy
          · exact ih y hy
          · rw [List.mem_singleton.mp hy]
            exact hw
      | some x =>
        rw [hb] at ih
        have ih : Best vs p o x := ih
        by_cases hw : w.p = p ∧ w.o = o ∧ pleO (some x) w
        · rw [if_pos hw]
          refine (⟨by simp, hw.1, hw.2.1, fun y hy e1 e2 => ?_⟩ : Best (vs ++ [w]) p o w)
          rcases List.mem_append.mp hy with hy | hy
          · have a := ih.top y hy e1 e2
            have b : ple x w := hw.2.2
            unfold ple at a b ⊢
            omega
          · rw [List.mem_singleton.mp hy]
            unfold ple
            omega
        · rw [if_neg hw]
          refine (⟨List.mem_append_left _ ih.m, ih.ep, ih.eo, fun y hy e1 e2 => ?_⟩ : Best (vs ++ [w]) p o x)
          rcases List.mem_append.mp hy with hy | hy
          · exact ih.top y hy e1 e2
          · rw [List.mem_singleton.mp hy] at e1 e2 ⊢
            have z : ¬ ple x w := fun z => hw ⟨e1, e2, z⟩
            unfold ple at z ⊢
            omega
  exact fun ws => key _ ws rfl
theorem ansW_is (ws : List Wd) (p o : Int) : IsAns ws p o (ansW ws p o) := by
  have h := bestW_is p o ws
  unfold ansW
  cases hb : bestW ws p o with
  | some x =>
    rw [hb] at h
    exact .inl ⟨x, h, rfl⟩
  | none =>
    rw [hb] at h
    exact .inr ⟨h, rfl⟩
/-- both ways give the same -/
theorem lastA_eq {ws us : List Wd} (al : Alike ws) (ho : Once ws us) (p o : Int) : lastA us p o = ansW ws p o :=
  isAns_uniq al (isAns_once ho (lastA_is ho.ord p o)) (ansW_is ws p o)
theorem filter_snoc {α : Type} (p : α → Bool) (l : List α) (x : α) : (l ++ [x]).filter p = l.filter p ++ if p x = true then [x] else [] := by
  rw [List.filter_append]
  congr 1
  by_cases h : p x = true
  · rw [List.filter_cons_of_pos h, if_pos h] <;> rfl
  · rw [List.filter_cons_of_neg h, if_neg h] <;> rfl
theorem nodup_sub_len {α : Type} [DecidableEq α] : ∀ {us ws : List α}, us.Nodup → (∀ x ∈ us, x ∈ ws) → us.length ≤ ws.length
  | [], _, _, _ => Nat.zero_le _
  | x :: us, ws, nd, h => by
    obtain ⟨h1, h2⟩ := List.nodup_cons.mp nd
    have hx : x ∈ ws := h x List.mem_cons_self
    have ih := nodup_sub_len (ws := ws.erase x) h2 fun y hy => by
      have ne : y ≠ x := fun e => h1 (e ▸ hy)
      exact (List.mem_erase_of_ne ne).mpr (h y (List.mem_cons_of_mem _ hy))
    have el := List.length_erase_of_mem hx
    have pos : 0 < ws.length := List.length_pos_of_mem hx
    rw [List.length_cons]
    omega
theorem once_len {ws us : List Wd} (h : Once ws us) : us.length ≤ ws.length := by
  have nd : us.Nodup := h.ord.imp fun {a b} z e => by
    subst e
    unfold plt at z
    omega
  exact nodup_sub_len nd fun x hx => (h.mem x).mp hx
/-! ### hours -/
def comeL (ps : List Int) (cs : List Str) (f : Int → Str) : List Int := ps.filter fun x => decide (f x ∈ cs)
def canB (m : Mt) (cs : List Str) (f : Int → Str) : Bool := decide (m.e ≤ (comeL m.ps cs f).length) && m.nds.all fun x => decide (x ∈ comeL m.ps cs f)
def hoursL (m : Mt) (cs : List Str) (F : Int → Int → Str) : List Int := ((List.range 12).filter fun o => canB m cs fun x => F x (Int.ofNat o)).map Int.ofNat
def ansF (ws : List Wd) (p o : Int) : Str := (ansW ws p o).getD "no"
end CH
end

section
set_option Elab.async false
set_option linter.all false
set_option maxRecDepth 100000
namespace CH
open PySem PySem.Spec PyProof.Rows L2
/-- a change of the answers alone -/
structure Same (g : Wd → Wd) : Prop where
  c : ∀ x, (g x).c = x.c
  h : ∀ x, (g x).h = x.h
  p : ∀ x, (g x).p = x.p
  o : ∀ x, (g x).o = x.o
theorem Same.kW {g : Wd → Wd} (s : Same g) (x : Wd) : kW (g x) = kW x := by
  unfold CH.kW
  rw [s.c, s.h]
theorem Same.ple {g : Wd → Wd} (s : Same g) (b : Option Wd) (x : Wd) : pleO (b.map g) (g x) ↔ pleO b x := by
  cases b with
  | none => exact Iff.rfl
  | some y =>
    show CH.ple (g y) (g x) ↔ CH.ple y x
    unfold CH.ple
    rw [s.c, s.c, s.h, s.h]
theorem bestW_map {g : Wd → Wd} (s : Same g) (p o : Int) (ws : List Wd) : bestW (ws.map g) p o = (bestW ws p o).map g := by
  unfold bestW
  have key : ∀ (ws : List Wd) (b : Option Wd), (ws.map g).foldl (fun b w => if w.p = p ∧ w.o = o ∧ pleO b w then some w else b) (b.map g) = (ws.foldl (fun b w => if w.p = p ∧ w.o = o ∧ pleO b w then some w else b) b).map g := by
    intro ws
    induction ws with
    | nil => exact fun b => rfl
    | cons x ws ih =>
      intro b
      rw [List.map_cons, List.foldl_cons, List.foldl_cons, ← ih]
      congr 1
      by_cases h : x.p = p ∧ x.o = o ∧ pleO b x
      · rw [if_pos h, if_pos ⟨(s.p x).trans h.1, (s.o x).trans h.2.1, (s.ple b x).mpr h.2.2⟩] <;> rfl
      · rw [if_neg h, if_neg fun z => h ⟨(s.p x).symm.trans z.1, (s.o x).symm.trans z.2.1, (s.ple b x).mp z.2.2⟩]
  exact key ws none
/-- maybe is taken for yes -/
def sureA (a : Str) : Str := if a = "maybe" then "yes" else a
def sureW (x : Wd) : Wd := { x with a := sureA x.a }
theorem sureW_same : Same sureW := ⟨fun _ => rfl, fun _ => rfl, fun _ => rfl, fun _ => rfl⟩
theorem ansF_sure (ws : List Wd) (p o : Int) : ansF (ws.map sureW) p o = sureA (ansF ws p o) := by
  unfold ansF ansW
  rw [bestW_map sureW_same]
  cases bestW ws p o with
  | none =>
    show (Str.ofString "no") = sureA "no"
    unfold sureA
    rw [if_neg (by decide)]
  | some x => rfl
theorem sureA_mem (a : Str) : sureA a ∈ (["yes"] : List Str) ↔ a ∈ (["yes", "maybe"] : List Str) := by
  unfold sureA
  by_cases h : a = "maybe"
  · rw [if_pos h]
    subst h
    simp
  · rw [if_neg h]
    simp [h]
theorem comeL_congr {ps : List Int} {cs ds : List Str} {f g : Int → Str} (h : ∀ x, decide (f x ∈ cs) = decide (g x ∈ ds)) : comeL ps cs f = comeL ps ds g := by
  unfold comeL
  congr 1
  funext x
  exact h x
theorem hours_sure (m : Mt) (ws : List Wd) : hoursL m ["yes"] (ansF (ws.map sureW)) = hoursL m ["yes", "maybe"] (ansF ws) := by
  unfold hoursL canB
  congr 2
  funext o
  rw [comeL_congr (cs := ["yes"]) (ds := ["yes", "maybe"]) (f := fun x => ansF (ws.map sureW) x (Int.ofNat o)) (g := fun x => ansF ws x (Int.ofNat o)) fun x => by
    rw [ansF_sure]
    exact decide_eq_decide.mpr (sureA_mem _)]
theorem filter_le {α : Type} {p q : α → Bool} (h : ∀ x, p x = true → q x = true) : ∀ l : List α, (l.filter p).length ≤ (l.filter q).length
  | [] => Nat.le_refl _
  | x :: l => by
    have ih := filter_le h l
    rw [List.filter_cons, List.filter_cons]
    by_cases e : p x = true
    · rw [if_pos e, if_pos (h x e), List.length_cons, List.length_cons]
      omega
    · rw [if_neg e]
      split
      · rw [List.length_cons]
        omega
      · exact ih
theorem hours_sub (m : Mt) (F : Int → Int → Str) : ∀ x ∈ hoursL m ["yes"] F, x ∈ hoursL m ["yes", "maybe"] F := by
  have mono : ∀ (f : Int → Str) (x : Int), decide (f x ∈ (["yes"] : List Str)) = true → decide (f x ∈ (["yes", "maybe"] : List Str)) = true := fun f x h => by
    have h := of_decide_eq_true h
    refine decide_eq_true ?_
    rw [List.mem_singleton.mp h]
    exact .head _
  intro x hx
  unfold hoursL at hx ⊢
  obtain ⟨o, ho, rfl⟩ := List.mem_map.mp hx
  refine List.mem_map.mpr ⟨o, ?_, rfl⟩
  obtain ⟨h1, h2⟩ := List.mem_filter.mp ho
  refine List.mem_filter.mpr ⟨h1, ?_⟩
  unfold canB at h2 ⊢
  simp only [Bool.and_eq_true, decide_eq_true_eq, List.all_eq_true] at h2 ⊢
  refine ⟨?_, fun y hy => ?_⟩
  · have h3 := h2.1
    have h4 : (comeL m.ps ["yes"] fun x => F x (Int.ofNat o)).length ≤ (comeL m.ps ["yes", "maybe"] fun x => F x (Int.ofNat o)).length := filter_le (mono fun x => F x (Int.ofNat o)) m.ps
    omega
  · have h3 := h2.2 y hy
    unfold comeL at h3 ⊢
    obtain ⟨h4, h5⟩ := List.mem_filter.mp h3
    exact List.mem_filter.mpr ⟨h4, mono (fun x => F x (Int.ofNat o)) y h5⟩
theorem sureW_ok {x : Wd} (h : x.ok) : (sureW x).ok := by
  obtain ⟨h1, h2, h3, h4, h5, h6, h7, h8, h9⟩ := h
  refine ⟨h1, h2, h3, h4, h5, h6, h7, h8, ?_⟩
  show sureA x.a ∈ ansL
  unfold sureA
  split
  · unfold ansL
    exact .head _
  · exact h9
/-- two lists of ints -/
def is2D (a b : List Int) : PyData := .list [isD a, isD b]
theorem is2D_eqv (a b : List Int) : PyData.eqv (is2D a b) (is2D a b) = true := by
  have e : PyData.eqv (is2D a b) (is2D a b) = decide ([a, b] = [a, b]) := eqvAll_map isD_eqv [a, b] [a, b]
  rw [e]
  exact decide_eq_true rfl
theorem is2D_sh (a b : List Int) : SeqAt.shaped (is2D a b) = true := by
  unfold SeqAt.shaped is2D isD
  simp only [PyData.canLay0, PyData.canLayAll0, ints_lay, PyData.depth, PyData.depthAll, ints_depth]
  rfl
theorem is2D_dp {K : PySem.W.Frag} {H : Hp} {l p q : Addr} {a b : List Int} (h : SqL K H l [.ref p, .ref q]) (hp : SqL K H p (a.map V.int)) (hq : SqL K H q (b.map V.int)) : Dp K H (.ref l) (is2D a b) :=
  .lst h (.cons (isD_dp hp) (.cons (isD_dp hq) .nil))
theorem hoursL_len (m : Mt) (cs : List Str) (F : Int → Int → Str) : (hoursL m cs F).length ≤ 12 := by
  unfold hoursL
  rw [List.length_map]
  exact List.length_filter_le _ _
end CH
end

section
set_option Elab.async false
set_option linter.all false
namespace CH
open PySem PySem.Spec PyProof.Rows L2
instance (x : Wd) : Decidable x.ok := by unfold Wd.ok; exact inferInstance
instance (ws : List Wd) : Decidable (Alike ws) := by unfold Alike; exact inferInstance
theorem Kept.alike {qs : List (Addr × Wd)} {ws : List Wd} (k : Kept qs ws) : Alike ws := by
  intro a ha b hb h1 h2
  obtain ⟨p, hp, ep⟩ := List.mem_map.mp ((k.mem a).mpr ha)
  obtain ⟨q, hq, eq⟩ := List.mem_map.mp ((k.mem b).mpr hb)
  have e : kW p.2 = kW q.2 := by unfold kW; rw [ep, eq, h1, h2]
  have inj : ∀ (qs : List (Addr × Wd)), (qs.Pairwise fun a b => kW a.2 ≠ kW b.2) → p ∈ qs → q ∈ qs → p = q := by
    intro qs
    induction qs with
    | nil => exact fun _ h _ => absurd h (by simp)
    | cons x qs ih =>
      intro h hp hq
      obtain ⟨h3, h4⟩ := List.pairwise_cons.mp h
      rcases List.mem_cons.mp hp with ea | ea
      · rcases List.mem_cons.mp hq with eb | eb
        · rw [ea, eb]
        · exact absurd (ea ▸ e) (h3 q eb)
      · rcases List.mem_cons.mp hq with eb | eb
        · exact absurd (eb ▸ e).symm (h3 p ea)
        · exact ih h4 ea eb
  rw [← ep, ← eq, inj qs k.nd hp hq]
theorem at_small {α : Type} {xs : List α} {i : Int} (h0 : 0 ≤ i) (h1 : i < (xs.length : Int)) : ∃ v, atI xs i = some v ∧ v ∈ xs := by
  have e : i = ((i.toNat : Nat) : Int) := (Int.toNat_of_nonneg h0).symm
  have h2 : i.toNat < xs.length := by omega
  have z := atI_nat (List.getElem?_eq_getElem h2)
  rw [← e] at z
  exact ⟨_, z, List.getElem_mem h2⟩
/-- all of unlike count or hand -/
def Diff (ws : List Wd) : Prop := ws.Pairwise fun a b => kW a ≠ kW b
theorem Diff.alike {ws : List Wd} (h : Diff ws) : Alike ws := by
  intro a ha b hb h1 h2
  have e : kW a = kW b := by unfold kW; rw [h1, h2]
  induction ws with
  | nil => exact absurd ha (by simp)
  | cons x ws ih =>
    obtain ⟨h3, h4⟩ := List.pairwise_cons.mp h
    rcases List.mem_cons.mp ha with ea | ea
    · rcases List.mem_cons.mp hb with eb | eb
      · rw [ea, eb]
      · exact absurd (ea ▸ e) (h3 b eb)
    · rcases List.mem_cons.mp hb with eb | eb
      · exact absurd ((eb ▸ e).symm) (h3 a ea)
      · exact ih h4 ea eb
theorem cut63 {ns : List Int} (h : ns.length ≤ 63) : cutV (ns.map V.int) none (some 63) = ns.map V.int := by
  unfold cutV
  rw [HT.sIx_none, show HT.sIx (ns.map V.int).length (ns.map V.int).length (some 63) = min 63 (ns.map V.int).length from HT.sIx_nat _ _ 63]
  rw [List.length_map, List.drop_zero, Nat.min_eq_right (by omega), Nat.sub_zero]
  exact List.take_of_length_le (by rw [List.length_map]; exact Nat.le_refl _)
end CH
end

section
set_option Elab.async false
set_option linter.all false
set_option maxRecDepth 100000
namespace CH
open PySem PySem.Spec PyProof.Rows L2
theorem plt_irr {a : Wd} : ¬ plt a a := fun h => by unfold plt at h; omega
theorem plt_asym {a b : Wd} (h : plt a b) : ¬ plt b a := fun g => by unfold plt at h g; omega
theorem pw_uniq : ∀ {us vs : List Wd}, us.Pairwise plt → vs.Pairwise plt → (∀ x, x ∈ us ↔ x ∈ vs) → us = vs
  | [], [], _, _, _ => rfl
  | [], v :: vs, _, _, m => absurd ((m v).mpr (.head _)) (by simp)
  | u :: us, [], _, _, m => absurd ((m u).mp (.head _)) (by simp)
  | u :: us, v :: vs, h1, h2, m => by
    obtain ⟨a1, a2⟩ := List.pairwise_cons.mp h1
    obtain ⟨b1, b2⟩ := List.pairwise_cons.mp h2
    have e : u = v := by
      rcases List.mem_cons.mp ((m u).mp (.head _)) with h | h
      · exact h
      · rcases List.mem_cons.mp ((m v).mpr (.head _)) with g | g
        · exact g.symm
        · exact absurd (b1 u h) (plt_asym (a1 v g))
    subst e
    rw [pw_uniq a2 b2 fun x => ⟨fun hx => ?_, fun hx => ?_⟩]
    · rcases List.mem_cons.mp ((m x).mp (.tail _ hx)) with h | h
      · rw [h] at hx
        exact absurd (a1 u hx) plt_irr
      · exact h
    · rcases List.mem_cons.mp ((m x).mpr (.tail _ hx)) with h | h
      · rw [h] at hx
        exact absurd (b1 u hx) plt_irr
      · exact h
theorem once_uniq {ws us vs : List Wd} (h1 : Once ws us) (h2 : Once ws vs) : us = vs := pw_uniq h1.ord h2.ord fun x => (h1.mem x).trans (h2.mem x).symm
theorem once_mem {ws us vs : List Wd} (h : Once ws vs) (m : ∀ x, x ∈ us ↔ x ∈ ws) : Once us vs := ⟨fun x => (h.mem x).trans (m x).symm, h.ord⟩
theorem isAns_mem {ws us : List Wd} {p o : Int} {r : Option Str} (m : ∀ x, x ∈ us ↔ x ∈ ws) (h : IsAns us p o r) : IsAns ws p o r := by
  rcases h with ⟨x, hx, e⟩ | ⟨hn, e⟩
  · exact .inl ⟨x, ⟨(m x).mp hx.m, hx.ep, hx.eo, fun y hy => hx.top y ((m y).mpr hy)⟩, e⟩
  · exact .inr ⟨fun y hy => hn y ((m y).mpr hy), e⟩
theorem ansF_mem {ws us : List Wd} (al : Alike ws) (m : ∀ x, x ∈ us ↔ x ∈ ws) : ansF us = ansF ws := by
  funext p o
  unfold ansF
  rw [isAns_uniq al (isAns_mem m (ansW_is us p o)) (ansW_is ws p o)]
theorem tat_qs {H : Hp} : ∀ {ts : List Addr} {ws : List Wd}, TAt H ts ws → ∃ qs : List (Addr × Wd), qs.map (·.1) = ts ∧ qs.map (·.2) = ws ∧ PAt H qs
  | _, _, .nil => ⟨[], rfl, rfl, fun _ h => absurd h (by simp)⟩
  | t :: _, x :: _, .cons a p => by
    obtain ⟨qs, h1, h2, h3⟩ := tat_qs p
    refine ⟨(t, x) :: qs, by rw [List.map_cons, h1], by rw [List.map_cons, h2], fun q hq => ?_⟩
    rcases List.mem_cons.mp hq with rfl | hq
    · exact a
    · exact h3 q hq
theorem tat_take {H : Hp} : ∀ {ts : List Addr} {ws : List Wd} (n : Nat), TAt H ts ws → TAt H (ts.take n) (ws.take n)
  | _, _, 0, _ => by rw [List.take_zero, List.take_zero]; exact .nil
  | _, _, _ + 1, .nil => .nil
  | _, _, n + 1, .cons a p => .cons a (tat_take n p)
theorem tat_drop {H : Hp} : ∀ {ts : List Addr} {ws : List Wd} (n : Nat), TAt H ts ws → TAt H (ts.drop n) (ws.drop n)
  | _, _, 0, h => h
  | _, _, _ + 1, .nil => .nil
  | _, _, n + 1, .cons _ p => tat_drop n p
theorem tat_apps {H : Hp} {ts rs : List Addr} {ws us : List Wd} (h1 : TAt H ts ws) (h2 : TAt H rs us) : TAt H (ts ++ rs) (ws ++ us) := by
  unfold TAt at h1 h2 ⊢
  induction h1 with
  | nil => exact h2
  | cons a _ ih => exact .cons a ih
theorem tat_rev {H : Hp} : ∀ {ts : List Addr} {ws : List Wd}, TAt H ts ws → TAt H ts.reverse ws.reverse
  | _, _, .nil => .nil
  | _, _, .cons a p => by
    rw [List.reverse_cons, List.reverse_cons]
    exact tat_apps (tat_rev p) (.cons a .nil)
theorem kept_of {qs : List (Addr × Wd)} (h : (qs.map (·.2)).Pairwise fun a b => kW a ≠ kW b) : Kept qs (qs.map (·.2)) := ⟨fun x => Iff.rfl, by rw [List.pairwise_map] at h; exact h⟩
theorem cut_take {ts : List Addr} {n : Nat} : cutV (ts.map V.ref) none (some (n : Int)) = (ts.take n).map V.ref := by
  unfold cutV
  rw [HT.sIx_none, show HT.sIx (ts.map V.ref).length (ts.map V.ref).length (some (n : Int)) = min n (ts.map V.ref).length from HT.sIx_nat _ _ n]
  rw [List.drop_zero, Nat.sub_zero, List.map_take]
  by_cases h : n ≤ (ts.map V.ref).length
  · rw [Nat.min_eq_left h]
  · rw [Nat.min_eq_right (by omega), List.take_of_length_le (Nat.le_refl _), List.take_of_length_le (by omega)]
theorem cut_drop {ts : List Addr} {n : Nat} (h : n ≤ ts.length) : cutV (ts.map V.ref) (some (n : Int)) none = (ts.drop n).map V.ref := by
  unfold cutV
  rw [HT.sIx_none, show HT.sIx (ts.map V.ref).length 0 (some (n : Int)) = min n (ts.map V.ref).length from HT.sIx_nat _ _ n]
  rw [Nat.min_eq_left (by rw [List.length_map]; exact h), List.map_drop]
  exact List.take_of_length_le (by rw [List.length_drop]; exact Nat.le_refl _)
theorem diff_len {ws us : List Wd} (d : Diff ws) (h : Once ws us) : us.length = ws.length := by
  have n1 : us.Nodup := h.ord.imp fun {a b} z e => by
    subst e
    exact plt_irr z
  have n2 : ws.Nodup := List.Pairwise.imp (fun {a b} z e => z (by rw [e])) d
  exact ((List.perm_ext_iff_of_nodup n1 n2).mpr h.mem).length_eq
theorem once_part {ws us vs : List Wd} (h : Once ws us) (m : ∀ x ∈ vs, x ∈ ws) : Once vs (us.filter fun x => decide (x ∈ vs)) :=
  ⟨fun x => by
    rw [List.mem_filter, decide_eq_true_eq]
    exact ⟨fun z => z.2, fun z => ⟨(h.mem x).mpr (m x z), z⟩⟩, h.ord.filter _⟩
theorem alike_sub {ws us : List Wd} (al : Alike ws) (m : ∀ x ∈ us, x ∈ ws) : Alike us := fun a ha b hb => al a (m a ha) b (m b hb)
/-- two lists of words -/
def ws2D (a b : List Wd) : PyData := .list [wsD a, wsD b]
theorem ws2D_eqv (a b : List Wd) : PyData.eqv (ws2D a b) (ws2D a b) = true := by
  have e : PyData.eqv (ws2D a b) (ws2D a b) = decide ([a, b] = [a, b]) := eqvAll_map wsD_eqv [a, b] [a, b]
  rw [e]
  exact decide_eq_true rfl
theorem wds_lay : ∀ l : List Wd, (∀ x ∈ l, x.ok) → PyData.canLayAll0 (l.map wdD) = true
  | [], _ => rfl
  | x :: l, h => by
    obtain ⟨_, _, _, _, _, _, _, _, ha⟩ := h x List.mem_cons_self
    simp only [List.map_cons, PyData.canLayAll0, wdD_lay ha, wds_lay l fun y hy => h y (List.mem_cons_of_mem _ hy), Bool.and_self]
theorem wds_dep : ∀ l : List Wd, PyData.depthAll (l.map wdD) ≤ 1
  | [] => by simp [PyData.depthAll]
  | x :: l => by
    have ih := wds_dep l
    simp only [List.map_cons, PyData.depthAll, wdD_depth]
    omega
theorem ws2D_sh {a b : List Wd} (ha : ∀ x ∈ a, x.ok) (hb : ∀ x ∈ b, x.ok) : SeqAt.shaped (ws2D a b) = true := by
  unfold SeqAt.shaped ws2D wsD
  have e1 : (PyData.list [.list (a.map wdD), .list (b.map wdD)]).canLay0 = true := by
    simp only [PyData.canLay0, PyData.canLayAll0, wds_lay a ha, wds_lay b hb, Bool.and_self]
  have e2 : (PyData.list [.list (a.map wdD), .list (b.map wdD)]).depth ≤ 64 := by
    have := wds_dep a
    have := wds_dep b
    simp only [PyData.depth, PyData.depthAll]
    omega
  rw [e1, decide_eq_true e2]
  rfl
theorem ws2D_dp {K : PySem.W.Frag} {H : Hp} {l p q : Addr} {a b : List Wd} (h : SqL K H l [.ref p, .ref q]) (hp : WsAt K H p a) (hq : WsAt K H q b) : Dp K H (.ref l) (ws2D a b) :=
  .lst h (.cons (wsD_dp hp) (.cons (wsD_dp hq) .nil))
end CH
end

section
set_option Elab.async false
set_option linter.all false
set_option maxRecDepth 100000
/-! words sorted, alike ones left in -/
namespace CH
open PySem PySem.Spec PyProof.Rows L2
theorem srt_of {H : Hp} {qs : List (Addr × Wd)} {ts' : List Addr} (hp : PAt H qs) (p : ts'.Perm (qs.map (·.1))) (s : ts'.Pairwise fun x y => HT.lexLt (keyOf (wkOf H) y) (keyOf (wkOf H) x) = false) :
    ∃ us, TAt H ts' us ∧ us.Perm (qs.map (·.2)) ∧ us.Pairwise ple := by
  obtain ⟨rs, pr, er⟩ := perm_lift (fun q : Addr × Wd => q.1) p qs rfl
  subst er
  have hr : ∀ q ∈ rs, H q.1 = some (.tup q.2.V) := fun q hq => hp q (pr.mem_iff.mp hq)
  refine ⟨rs.map (·.2), ?_, pr.map _, ?_⟩
  · have all : ∀ l : List (Addr × Wd), (∀ q ∈ l, H q.1 = some (.tup q.2.V)) → TAt H (l.map (·.1)) (l.map (·.2)) := by
      intro l
      induction l with
      | nil => intro _; exact .nil
      | cons q l ih => intro h; exact .cons (h q List.mem_cons_self) (ih fun p hp => h p (List.mem_cons_of_mem _ hp))
    exact all rs hr
  · rw [List.pairwise_map] at s ⊢
    refine List.Pairwise.imp_of_mem (fun {a b} ha hb h => ?_) s
    have ea := wkOf_eq (hr a ha)
    have eb := wkOf_eq (hr b hb)
    have h1' : HT.lexLt (wkey b.2.ints b.2.a) (wkey a.2.ints a.2.a) = false := by
      have z : HT.lexLt (keyOf (wkOf H) b.1) (keyOf (wkOf H) a.1) = false := h
      unfold keyOf at z
      rw [ea, eb] at z
      exact z
    have h1'' : HT.lexLt (b.2.c :: b.2.h :: b.2.p :: b.2.o :: strInts b.2.a) (a.2.c :: a.2.h :: a.2.p :: a.2.o :: strInts a.2.a) = false := h1'
    rw [HT.lexLt_cons] at h1''
    by_cases e : b.2.c = a.2.c
    · rw [if_pos e, HT.lexLt_cons] at h1''
      by_cases e2 : b.2.h = a.2.h
      · exact .inr ⟨e.symm, by omega⟩
      · rw [if_neg e2] at h1''
        have := of_decide_eq_false h1''
        exact .inr ⟨e.symm, by omega⟩
    · rw [if_neg e] at h1''
      have := of_decide_eq_false h1''
      exact .inl (by omega)
theorem lastA_isW {us : List Wd} (h : us.Pairwise ple) (p o : Int) : IsAns us p o (lastA us p o) := by
  have key : ∀ n, ∀ us : List Wd, us.length = n → us.Pairwise ple → IsAns us p o (lastA us p o) := by
    intro n
    induction n with
    | zero =>
      intro us e _
      have e0 : us = [] := List.eq_nil_of_length_eq_zero e
      subst e0
      exact .inr ⟨fun y hy => absurd hy (by simp), rfl⟩
    | succ n ih =>
      intro us e hp
      have hne : us ≠ [] := fun z => by rw [z] at e; cases e
      obtain ⟨vs, w, rfl⟩ : ∃ vs w, us = vs ++ [w] := ⟨us.dropLast, us.getLast hne, (List.dropLast_concat_getLast hne).symm⟩
      have hl : vs.length = n := by
        rw [List.length_append] at e
        exact Nat.succ.inj e
      obtain ⟨h1, _, h3⟩ := List.pairwise_append.mp hp
      have ih := ih vs hl h1
      rw [lastA_snoc]
      by_cases hw : w.p = p ∧ w.o = o
      · rw [if_pos hw]
        refine .inl ⟨w, ⟨by simp, hw.1, hw.2, fun y hy _ _ => ?_⟩, rfl⟩
        rcases List.mem_append.mp hy with hy | hy
        · have q := h3 y hy w (by simp)
          exact q
        · rw [List.mem_singleton.mp hy]
          unfold ple
          omega
      · rw [if_neg hw]
        rcases ih with ⟨x, hx, ex⟩ | ⟨hn, ex⟩
        · refine .inl ⟨x, ⟨List.mem_append_left _ hx.m, hx.ep, hx.eo, fun y hy e1 e2 => ?_⟩, ex⟩
          rcases List.mem_append.mp hy with hy | hy
          · exact hx.top y hy e1 e2
          · rw [List.mem_singleton.mp hy] at e1 e2
            exact absurd ⟨e1, e2⟩ hw
        · refine .inr ⟨fun y hy => ?_, ex⟩
          rcases List.mem_append.mp hy with hy | hy
          · exact hn y hy
          · rw [List.mem_singleton.mp hy]
            exact hw
  exact key _ us rfl h
theorem lastA_srt {ws us : List Wd} (al : Alike ws) (pm : us.Perm ws) (hs : us.Pairwise ple) (p o : Int) : lastA us p o = ansW ws p o :=
  isAns_uniq al (isAns_mem (fun x => pm.mem_iff) (lastA_isW hs p o)) (ansW_is ws p o)
end CH
end

section
set_option Elab.async false
set_option linter.all false
set_option maxRecDepth 100000
/-! fields: numbers, lists of numbers, lists of such lists -/
namespace CH
open PySem PySem.Spec PyProof.Rows L2
theorem ixn_at {n j : Nat} (hj : j < n) : ixN n (j : Int) = some j := by
  unfold ixN
  rw [if_pos (Int.natCast_nonneg j), if_pos (by omega), Int.toNat_natCast]
/-- an element of a field that is a list: a number, or a list of numbers -/
abbrev El := Sum Int (List Int)
def El.at_ (K : PySem.W.Frag) (H : Hp) (v : V) : El → Prop
  | .inl n => v = .int n
  | .inr r => ∃ t, v = .ref t ∧ SqL K H t (r.map V.int) ∧ r.length ≤ 1000
def El.new (H0 H : Hp) (v : V) : El → Prop
  | .inl n => v = .int n
  | .inr r => ∃ t, v = .ref t ∧ H t = some (.lst (r.map V.int)) ∧ H0 t = none ∧ r.length ≤ 1000
theorem El.at_k {K : PySem.W.Frag} {H H' : Hp} {v : V} {e : El} (k : Kx H H') (h : El.at_ K H v e) : El.at_ K H' v e := by
  cases e with
  | inl n => exact h
  | inr r =>
    obtain ⟨t, a, b, c⟩ := h
    exact ⟨t, a, k.l b, c⟩
/-- the new elements so far: none of them is told or rest, none twice -/
structure Cp (H0 H : Hp) (p q : Addr) (ns : List V) (es : List El) : Prop where
  pr : Paired (El.new H0 H) ns es
  d : ∀ t, V.ref t ∈ ns → t ≠ p ∧ t ≠ q
  n : ∀ (i j : Nat) (t : Addr), ns[i]? = some (V.ref t) → ns[j]? = some (V.ref t) → i = j
theorem Cp.nil {H0 H : Hp} {p q : Addr} : Cp H0 H p q [] [] := ⟨.nil, fun t h => absurd h (by simp), fun i j t h => by simp at h⟩
theorem Cp.mono {H0 H H' : Hp} {p q : Addr} {ns : List V} {es : List El} (h : Cp H0 H p q ns es) (k : ∀ t o, t ≠ p → t ≠ q → H t = some o → (∀ ps, o ≠ .tbl ps) → H' t = some o) : Cp H0 H' p q ns es := by
  refine ⟨?_, h.d, h.n⟩
  have go : ∀ {l : List V} {m : List El}, Paired (El.new H0 H) l m → (∀ t, V.ref t ∈ l → t ≠ p ∧ t ≠ q) → Paired (El.new H0 H') l m := by
    intro l m z
    induction z with
    | nil => intro _; exact .nil
    | @cons v e l m r t ih =>
      intro hd
      refine .cons ?_ (ih fun t ht => hd t (List.mem_cons_of_mem _ ht))
      cases e with
      | inl n => exact r
      | inr x =>
        obtain ⟨t, rfl, b, c, d⟩ := r
        obtain ⟨d1, d2⟩ := hd t List.mem_cons_self
        exact ⟨t, rfl, k t _ d1 d2 b (fun _ z => nomatch z), c, d⟩
  exact go h.pr h.d
theorem Cp.snoc {H0 H : Hp} {p q : Addr} {ns : List V} {es : List El} {v : V} {e : El} (h : Cp H0 H p q ns es) (hv : El.new H0 H v e) (hd : ∀ t, v = .ref t → t ≠ p ∧ t ≠ q ∧ V.ref t ∉ ns) : Cp H0 H p q (ns ++ [v]) (es ++ [e]) := by
  refine ⟨paired_snoc h.pr hv, fun t ht => ?_, fun i j t hi hj => ?_⟩
  · rcases List.mem_append.mp ht with z | z
    · exact h.d t z
    · have e := List.mem_singleton.mp z
      exact ⟨(hd t e.symm).1, (hd t e.symm).2.1⟩
  · have lt : ∀ i, (ns ++ [v])[i]? = some (V.ref t) → (i < ns.length ∧ ns[i]? = some (V.ref t)) ∨ (i = ns.length ∧ v = .ref t) := fun i hi => by
      by_cases z : i < ns.length
      · rw [List.getElem?_append_left z] at hi
        exact .inl ⟨z, hi⟩
      · rw [List.getElem?_append_right (Nat.le_of_not_lt z)] at hi
        have : i - ns.length = 0 := by
          cases e : i - ns.length with
          | zero => rfl
          | succ m => rw [e] at hi; simp at hi
        rw [this] at hi
        exact .inr ⟨by omega, by simpa using hi⟩
    rcases lt i hi with ⟨a, b⟩ | ⟨a, b⟩ <;> rcases lt j hj with ⟨c, d⟩ | ⟨c, d⟩
    · exact h.n i j t b d
    · exact absurd (List.mem_of_getElem? b) (hd t d).2.2
    · exact absurd (List.mem_of_getElem? d) (hd t b).2.2
    · rw [a, c]
/-- a field's list, new: of numbers -/
theorem new_ints {H0 H : Hp} : ∀ {vs : List V} {ns : List Int}, Paired (El.new H0 H) vs (ns.map Sum.inl) → vs = ns.map V.int
  | [], [], _ => rfl
  | [], _ :: _, h => nomatch h
  | _ :: _, [], h => nomatch h
  | v :: vs, n :: ns, .cons a t => by
    rw [List.map_cons, new_ints t, show v = .int n from a]
theorem at_ints {K : PySem.W.Frag} {H : Hp} : ∀ (ns : List Int), Paired (El.at_ K H) (ns.map V.int) (ns.map Sum.inl)
  | [] => .nil
  | n :: ns => .cons rfl (at_ints ns)
/-- .. of lists of numbers -/
def RowsAt (H : Hp) (ts : List Addr) (rs : List (List Int)) : Prop := Paired (fun t (r : List Int) => H t = some (.lst (r.map V.int)) ∧ r.length ≤ 1000) ts rs
def RowsIn (K : PySem.W.Frag) (H : Hp) (ts : List Addr) (rs : List (List Int)) : Prop := Paired (fun t (r : List Int) => SqL K H t (r.map V.int) ∧ r.length ≤ 1000) ts rs
theorem RowsAt.in_ {K : PySem.W.Frag} {H : Hp} {ts : List Addr} {rs : List (List Int)} (h : RowsAt H ts rs) : RowsIn K H ts rs := by
  induction h with
  | nil => exact .nil
  | cons r t ih => exact .cons ⟨sq_of r.1, r.2⟩ ih
theorem RowsAt.k {H H' : Hp} {ts : List Addr} {rs : List (List Int)} (k : Kx H H') (h : RowsAt H ts rs) : RowsAt H' ts rs := by
  induction h with
  | nil => exact .nil
  | cons r t ih => exact .cons ⟨k.lst r.1, r.2⟩ ih
theorem RowsAt.up {H : Hp} {p : Addr} {o : HO} {ts : List Addr} {rs : List (List Int)} (h : RowsAt H ts rs) (n : ∀ t ∈ ts, t ≠ p) : RowsAt (upd H p o) ts rs := by
  induction h with
  | nil => exact .nil
  | @cons t r ts rs a b ih =>
    refine .cons ⟨?_, a.2⟩ (ih fun t ht => n t (List.mem_cons_of_mem _ ht))
    rw [upd_ne (n t List.mem_cons_self)]
    exact a.1
theorem RowsIn.k {K : PySem.W.Frag} {H H' : Hp} {ts : List Addr} {rs : List (List Int)} (k : Kx H H') (h : RowsIn K H ts rs) : RowsIn K H' ts rs := by
  induction h with
  | nil => exact .nil
  | cons r t ih => exact .cons ⟨k.l r.1, r.2⟩ ih
theorem at_rows {K : PySem.W.Frag} {H : Hp} {ts : List Addr} {rs : List (List Int)} (h : RowsIn K H ts rs) : Paired (El.at_ K H) (ts.map V.ref) (rs.map Sum.inr) := by
  induction h with
  | nil => exact .nil
  | cons r t ih => exact .cons ⟨_, rfl, r.1, r.2⟩ ih
theorem RowsAt.set_ {H : Hp} : ∀ {ts : List Addr} {rs : List (List Int)} {i : Nat} {t : Addr} {ns : List Int}, RowsAt H ts rs → ts.Nodup → ts[i]? = some t → ns.length ≤ 1000 → RowsAt (upd H t (.lst (ns.map V.int))) ts (rs.set i ns)
  | _, _, _, _, _, .nil, _, hi, _ => by simp at hi
  | t0 :: ts, r0 :: rs, 0, t, ns, .cons a b, nd, hi, hn => by
    have e : t0 = t := by simpa using hi
    subst e
    obtain ⟨n1, n2⟩ := List.nodup_cons.mp nd
    exact .cons ⟨upd_same, hn⟩ (RowsAt.up b fun y hy z => n1 (z ▸ hy))
  | t0 :: ts, r0 :: rs, i + 1, t, ns, .cons a b, nd, hi, hn => by
    obtain ⟨n1, n2⟩ := List.nodup_cons.mp nd
    have hi' : ts[i]? = some t := by simpa using hi
    have ne : t0 ≠ t := fun z => n1 (z ▸ List.mem_of_getElem? hi')
    exact .cons ⟨by rw [upd_ne ne]; exact a.1, a.2⟩ (RowsAt.set_ b n2 hi' hn)
/-- the rows of an answer: new, none twice, none is the list -/
structure RowsNew (H0 H : Hp) (l : Addr) (ts : List Addr) (rs : List (List Int)) : Prop where
  at_ : RowsAt H ts rs
  new : ∀ t ∈ ts, H0 t = none
  ne : ∀ t ∈ ts, t ≠ l
  nd : ts.Nodup
theorem new_rows {H0 H : Hp} {p q : Addr} : ∀ {vs : List V} {rs : List (List Int)}, Paired (El.new H0 H) vs (rs.map Sum.inr) → ∃ ts : List Addr, vs = ts.map V.ref ∧ RowsAt H ts rs ∧ ∀ t ∈ ts, H0 t = none
  | [], [], _ => ⟨[], rfl, .nil, fun t h => absurd h (by simp)⟩
  | [], _ :: _, h => nomatch h
  | _ :: _, [], h => nomatch h
  | v :: vs, r :: rs, .cons a t => by
    obtain ⟨ts, e, b, c⟩ := new_rows (p := p) (q := q) t
    obtain ⟨x, rfl, h1, h2, h3⟩ := a
    refine ⟨x :: ts, by rw [e]; rfl, .cons ⟨h1, h3⟩ b, fun y hy => ?_⟩
    rcases List.mem_cons.mp hy with rfl | hy
    · exact h2
    · exact c y hy
theorem Cp.rows {H0 H : Hp} {p q : Addr} {vs : List V} {rs : List (List Int)} (h : Cp H0 H p q vs (rs.map Sum.inr)) : ∃ ts : List Addr, vs = ts.map V.ref ∧ RowsNew H0 H p ts rs := by
  obtain ⟨ts, rfl, b, c⟩ := new_rows (p := p) (q := q) h.pr
  refine ⟨ts, rfl, b, c, fun t ht => (h.d t (List.mem_map.mpr ⟨t, ht, rfl⟩)).1, ?_⟩
  refine List.pairwise_iff_getElem.mpr fun i j hi hj hij e => ?_
  have z : ts[j]? = some ts[j] := List.getElem?_eq_getElem hj
  have z0 : ts[i]? = some ts[j] := by rw [List.getElem?_eq_getElem hi, e]
  have a1 : (ts.map V.ref)[i]? = some (V.ref ts[j]) := by rw [List.getElem?_map, z0] <;> rfl
  have a2 : (ts.map V.ref)[j]? = some (V.ref ts[j]) := by rw [List.getElem?_map, z] <;> rfl
  exact absurd (h.n i j _ a1 a2) (by omega)
end CH
end

section
set_option Elab.async false
set_option linter.all false
set_option maxRecDepth 100000
namespace CH
open PySem PySem.Spec PyProof.Rows L2
/-- people bar a meeting at an hour -/
def barsB (m : Mt) (f : Int → Option Str) (ns : List Int) : Bool :=
  decide ns.Nodup && (ns.all fun x => decide (x ∈ m.ps)) && (ns.all fun x => !decide ((f x).getD "no" = "yes")) && (decide ((m.ps.length : Int) - m.e < (ns.length : Int)) || ns.any fun x => decide (x ∈ m.nds))
theorem cutV_take {xs : List V} {n : Nat} : cutV xs none (some (n : Int)) = xs.take n := by
  unfold cutV
  rw [HT.sIx_none, show HT.sIx xs.length xs.length (some (n : Int)) = min n xs.length from HT.sIx_nat _ _ n]
  rw [List.drop_zero, Nat.sub_zero]
  by_cases h : n ≤ xs.length
  · rw [Nat.min_eq_left h]
  · rw [Nat.min_eq_right (by omega), List.take_length, List.take_of_length_le (by omega)]
theorem cutV_drop {xs : List V} {n : Nat} : cutV xs (some (n : Int)) none = xs.drop n := by
  unfold cutV
  rw [HT.sIx_none, show HT.sIx xs.length 0 (some (n : Int)) = min n xs.length from HT.sIx_nat _ _ n]
  by_cases h : n ≤ xs.length
  · rw [Nat.min_eq_left h]
    exact List.take_of_length_le (by rw [List.length_drop]; exact Nat.le_refl _)
  · rw [Nat.min_eq_right (by omega), List.drop_length, List.take_nil, List.drop_eq_nil_of_le (by omega)]
theorem hoursL_mem {m : Mt} {cs : List Str} {F : Int → Int → Str} {h : Int} (z : h ∈ hoursL m cs F) : 0 ≤ h ∧ h ≤ 11 := by
  unfold hoursL at z
  obtain ⟨o, ho, rfl⟩ := List.mem_map.mp z
  have := List.mem_range.mp (List.mem_filter.mp ho).1
  show (0 : Int) ≤ (o : Int) ∧ (o : Int) ≤ 11
  omega
/-- what At tells -/
def atB (m : Mt) (ws : List Wd) (h : Int) : Bool := decide ((hoursL m ["yes"] (ansF ws)).take 1 = [h])
/-- what Barred tells -/
def barredB (m : Mt) (ws : List Wd) (rs : List (List Int)) : Bool := decide (rs.length = 12) && (List.range rs.length).all fun i => barsB m (fun x => ansW ws x (i : Nat)) (rs.getD i [])
/-- words as shows takes them -/
structure Words (K : PySem.W.Frag) (H : Hp) (l : Addr) (ws : List Wd) : Prop where
  ex : ∃ ts : List Addr, SqL K H l (ts.map V.ref) ∧ TAt H ts ws
  h80 : ws.length ≤ 80
  ok : ∀ x ∈ ws, x.ok
  al : Alike ws
theorem Words.k {K : PySem.W.Frag} {H H' : Hp} {l : Addr} {ws : List Wd} (k : Kx H H') (h : Words K H l ws) : Words K H' l ws := by
  obtain ⟨⟨ts, a, b⟩, c, d, e⟩ := h
  exact ⟨⟨ts, k.l a, b.k k⟩, c, d, e⟩
theorem Words.at_ {K : PySem.W.Frag} {H : Hp} {l : Addr} {ws : List Wd} (h : Words K H l ws) : WsAt K H l ws := by
  obtain ⟨⟨ts, a, b⟩, c, d, e⟩ := h
  exact ⟨ts, a, b.w⟩
def notYes (m : Mt) (f : Int → Option Str) : List Int := m.ps.filter fun x => !decide ((f x).getD "no" = "yes")
theorem rise_gt : ∀ {ns : List Int} {b : Int}, Rise b ns → ∀ x ∈ ns, b < x
  | [], _, _, x, h => absurd h (by simp)
  | y :: ys, b, r, x, h => by
    obtain ⟨r1, r2, r3⟩ := r
    rcases List.mem_cons.mp h with rfl | h
    · omega
    · have := rise_gt r3 x h
      omega
theorem rise_nodup : ∀ {ns : List Int} {b : Int}, Rise b ns → ns.Nodup
  | [], _, _ => List.nodup_nil
  | y :: ys, b, r => by
    obtain ⟨r1, r2, r3⟩ := r
    refine List.nodup_cons.mpr ⟨fun h => ?_, rise_nodup r3⟩
    have := rise_gt r3 y h
    omega
theorem notYes_split (m : Mt) (f : Int → Option Str) : (comeL m.ps ["yes"] fun x => (f x).getD "no").length + (notYes m f).length = m.ps.length := by
  unfold comeL notYes
  generalize m.ps = ps
  induction ps with
  | nil => rfl
  | cons x xs ih =>
    have hm : ((f x).getD "no" ∈ [("yes" : Str)]) ↔ (f x).getD "no" = "yes" := List.mem_singleton
    by_cases h : (f x).getD "no" = "yes"
    · rw [List.filter_cons_of_pos (p := fun x => decide ((fun x => (f x).getD "no") x ∈ [("yes" : Str)])) (decide_eq_true (hm.mpr h)), List.filter_cons_of_neg (p := fun x => !decide ((f x).getD "no" = "yes")) (by rw [decide_eq_true h]; decide), List.length_cons, List.length_cons]
      omega
    · rw [List.filter_cons_of_neg (p := fun x => decide ((fun x => (f x).getD "no") x ∈ [("yes" : Str)])) (by rw [decide_eq_false (fun z => h (hm.mp z))]; decide), List.filter_cons_of_pos (p := fun x => !decide ((f x).getD "no" = "yes")) (by rw [decide_eq_false h]; rfl), List.length_cons, List.length_cons]
      omega
theorem bars_all {m : Mt} {f : Int → Option Str} (mok : m.ok) (h : (canB m ["yes"] fun x => (f x).getD "no") = false) : barsB m f (notYes m f) = true := by
  have hs := notYes_split m f
  unfold barsB
  have h1 : (notYes m f).Nodup := List.Nodup.sublist (List.filter_sublist) (rise_nodup mok.p)
  have h2 : ((notYes m f).all fun x => decide (x ∈ m.ps)) = true := List.all_eq_true.mpr fun x hx => decide_eq_true (List.mem_filter.mp hx).1
  have h3 : ((notYes m f).all fun x => !decide ((f x).getD "no" = "yes")) = true := List.all_eq_true.mpr fun x hx => (List.mem_filter.mp hx).2
  rw [decide_eq_true h1, h2, h3, Bool.true_and, Bool.true_and, Bool.true_and]
  unfold canB at h
  rw [Bool.and_eq_false_iff] at h
  rw [Bool.or_eq_true]
  rcases h with h | h
  · left
    have := of_decide_eq_false h
    exact decide_eq_true (by omega)
  · right
    obtain ⟨x, hx, hn⟩ := List.all_eq_false.mp h
    have hp := mok.sub x hx
    have hn' : ¬ x ∈ comeL m.ps ["yes"] fun x => (f x).getD "no" := by simpa using hn
    refine List.any_eq_true.mpr ⟨x, List.mem_filter.mpr ⟨hp, ?_⟩, decide_eq_true hx⟩
    by_cases z : (f x).getD "no" = "yes"
    · exact absurd (List.mem_filter.mpr ⟨hp, decide_eq_true (by show (f x).getD "no" ∈ [("yes" : Str)]; rw [z]; exact List.mem_cons_self)⟩) hn'
    · rw [decide_eq_false z] <;> rfl
theorem bars_nil {m : Mt} {f : Int → Option Str} (mok : m.ok) : barsB m f [] = false := by
  unfold barsB
  have := mok.e2
  rw [show decide ((m.ps.length : Int) - m.e < (([] : List Int).length : Int)) = false from decide_eq_false (by show ¬ (m.ps.length : Int) - m.e < 0; omega)]
  simp
/-- the rows that are told -/
def toldRows (m : Mt) (ws : List Wd) : List (List Int) := (List.range 12).map fun o => notYes m fun x => ansW ws x (o : Nat)
theorem toldRows_at {m : Mt} {ws : List Wd} {i : Nat} (h : i < 12) : (toldRows m ws).getD i [] = notYes m fun x => ansW ws x (i : Nat) := by
  unfold toldRows
  rw [List.getD_eq_getElem?_getD, List.getElem?_map, List.getElem?_range h] <;> rfl
theorem hoursL_nil {m : Mt} {ws : List Wd} (h : hoursL m ["yes"] (ansF ws) = []) {i : Nat} (hi : i < 12) : (canB m ["yes"] fun x => (ansW ws x (i : Nat)).getD "no") = false := by
  refine Bool.eq_false_iff.mpr fun z => ?_
  have : Int.ofNat i ∈ hoursL m ["yes"] (ansF ws) := List.mem_map.mpr ⟨i, List.mem_filter.mpr ⟨List.mem_range.mpr hi, z⟩, rfl⟩
  rw [h] at this
  exact absurd this (by simp)
theorem told_barred {m : Mt} {ws : List Wd} (mok : m.ok) (h : hoursL m ["yes"] (ansF ws) = []) : barredB m ws (toldRows m ws) = true := by
  have l : (toldRows m ws).length = 12 := by unfold toldRows; rw [List.length_map, List.length_range]
  unfold barredB
  rw [l, decide_eq_true rfl, Bool.true_and, List.all_eq_true]
  intro i hi
  have hi := List.mem_range.mp hi
  rw [toldRows_at hi]
  exact bars_all mok (hoursL_nil h hi)
theorem told_at {m : Mt} {ws : List Wd} {h : Int} {hs : List Int} (e : hoursL m ["yes"] (ansF ws) = h :: hs) : atB m ws h = true := by
  unfold atB
  rw [e]
  exact decide_eq_true rfl
/-- one row emptied -/
theorem barred_empty {m : Mt} {ws : List Wd} {rs : List (List Int)} (mok : m.ok) (i : Nat) (h : i < rs.length) (e : rs.getD i [] = []) : barredB m ws rs = false := by
  unfold barredB
  rw [Bool.and_eq_false_iff]
  right
  refine List.all_eq_false.mpr ⟨i, List.mem_range.mpr h, ?_⟩
  rw [e, bars_nil mok]
  decide
theorem barred_long {m : Mt} {ws : List Wd} {rs : List (List Int)} (h : rs.length ≠ 12) : barredB m ws rs = false := by
  unfold barredB
  rw [decide_eq_false h]
  rfl
/-- truths as data -/
def bsD (bs : List Bool) : PyData := .list (bs.map PyData.bool)
theorem bool_eqv (a b : Bool) : PyData.eqv (.bool a) (.bool b) = decide (a = b) := by cases a <;> cases b <;> rfl
theorem bsD_eqv (xs ys : List Bool) : PyData.eqv (bsD xs) (bsD ys) = decide (xs = ys) := eqvAll_map bool_eqv xs ys
theorem bls_dp {K : PySem.W.Frag} {H : Hp} : ∀ bs : List Bool, DpAll K H (bs.map V.bl) (bs.map PyData.bool)
  | [] => .nil
  | b :: bs => .cons (.bl b) (bls_dp bs)
theorem bsD_dp {K : PySem.W.Frag} {H : Hp} {l : Addr} {bs : List Bool} (h : SqL K H l (bs.map V.bl)) : Dp K H (.ref l) (bsD bs) := .lst h (bls_dp bs)
theorem bls_lay : ∀ bs : List Bool, PyData.canLayAll0 (bs.map PyData.bool) = true
  | [] => rfl
  | b :: bs => by simp only [List.map_cons, PyData.canLayAll0, PyData.canLay0, bls_lay bs, Bool.and_self]
theorem bls_depth : ∀ bs : List Bool, PyData.depthAll (bs.map PyData.bool) = 0
  | [] => rfl
  | b :: bs => by
    simp only [List.map_cons, PyData.depthAll, PyData.depth, bls_depth bs]
    rfl
theorem bsD_sh (bs : List Bool) : SeqAt.shaped (bsD bs) = true := by
  unfold SeqAt.shaped bsD
  simp only [PyData.canLay0, bls_lay, PyData.depth, bls_depth]
  rfl
theorem words_of {K : PySem.W.Frag} {H : Hp} {p : Addr} {ts : List Addr} {ws us : List Wd} (hp : H p = some (.lst (ts.map V.ref))) (ht : TAt H ts us) (h80 : ws.length ≤ 80) (ok : ∀ x ∈ ws, x.ok) (al : Alike ws) (l : us.length ≤ ws.length) (m : ∀ x ∈ us, x ∈ ws) : Words K H p us :=
  ⟨⟨ts, sq_of hp, ht⟩, by omega, fun x hx => ok x (m x hx), alike_sub al m⟩
/-- lists of lists of numbers as data -/
def rsD (rs : List (List Int)) : PyData := .list (rs.map isD)
theorem rsD_eqv (xs ys : List (List Int)) : PyData.eqv (rsD xs) (rsD ys) = decide (xs = ys) := eqvAll_map isD_eqv xs ys
theorem rsD_dp {K : PySem.W.Frag} {H : Hp} {l : Addr} {ts : List Addr} {rs : List (List Int)} (h : SqL K H l (ts.map V.ref)) (hr : RowsIn K H ts rs) : Dp K H (.ref l) (rsD rs) := by
  refine .lst h ?_
  clear h
  induction hr with
  | nil => exact .nil
  | cons r t ih => exact .cons (isD_dp r.1) ih
theorem rsD_sh (rs : List (List Int)) : SeqAt.shaped (rsD rs) = true := by
  have lay : ∀ l : List (List Int), PyData.canLayAll0 (l.map isD) = true := by
    intro l
    induction l with
    | nil => rfl
    | cons x l ih =>
      have e : (isD x).canLay0 = true := by
        unfold isD
        simp only [PyData.canLay0, ints_lay]
      simp only [List.map_cons, PyData.canLayAll0, e, ih, Bool.and_self]
  have dep : ∀ l : List (List Int), PyData.depthAll (l.map isD) ≤ 1 := by
    intro l
    induction l with
    | nil => simp [PyData.depthAll]
    | cons x l ih =>
      have e : (isD x).depth ≤ 1 := by
        unfold isD
        simp only [PyData.depth, ints_depth]
        decide
      simp only [List.map_cons, PyData.depthAll]
      omega
  unfold SeqAt.shaped rsD
  have e1 : (PyData.list (rs.map isD)).canLay0 = true := by
    simp only [PyData.canLay0]
    exact lay rs
  have e2 : (PyData.list (rs.map isD)).depth ≤ 64 := by
    simp only [PyData.depth]
    have := dep rs
    omega
  rw [e1, decide_eq_true e2]
  rfl
/-- a list of rows, few and short -/
def RsOk (K : PySem.W.Frag) (H : Hp) (q : Addr) : Prop := ∃ (ts : List Addr) (rs : List (List Int)), SqL K H q (ts.map V.ref) ∧ RowsIn K H ts rs ∧ rs.length ≤ 100 ∧ ∀ x ∈ rs, x.length ≤ 900
theorem RsOk.k {K : PySem.W.Frag} {H H' : Hp} {q : Addr} (k : Kx H H') (h : RsOk K H q) : RsOk K H' q := by
  obtain ⟨ts, rs, a, b, c, d⟩ := h
  exact ⟨ts, rs, k.l a, b.k k, c, d⟩
theorem RowsIn.take {K : PySem.W.Frag} {H : Hp} : ∀ {ts : List Addr} {rs : List (List Int)} (n : Nat), RowsIn K H ts rs → RowsIn K H (ts.take n) (rs.take n)
  | _, _, 0, _ => by rw [List.take_zero, List.take_zero]; exact .nil
  | _, _, _ + 1, .nil => .nil
  | _, _, n + 1, .cons a p => .cons a (RowsIn.take n p)
theorem RowsIn.drop {K : PySem.W.Frag} {H : Hp} : ∀ {ts : List Addr} {rs : List (List Int)} (n : Nat), RowsIn K H ts rs → RowsIn K H (ts.drop n) (rs.drop n)
  | _, _, 0, h => h
  | _, _, _ + 1, .nil => .nil
  | _, _, n + 1, .cons _ p => RowsIn.drop n p
theorem RowsIn.app {K : PySem.W.Frag} {H : Hp} {ts us : List Addr} {rs ss : List (List Int)} (h : RowsIn K H ts rs) (g : RowsIn K H us ss) : RowsIn K H (ts ++ us) (rs ++ ss) := by
  induction h with
  | nil => exact g
  | cons a t ih => exact .cons a ih
theorem RowsIn.rev {K : PySem.W.Frag} {H : Hp} {ts : List Addr} {rs : List (List Int)} (h : RowsIn K H ts rs) : RowsIn K H ts.reverse rs.reverse := by
  induction h with
  | nil => exact .nil
  | cons a t ih =>
    rw [List.reverse_cons, List.reverse_cons]
    exact ih.app (.cons a .nil)
theorem RowsIn.rep {K : PySem.W.Frag} {H : Hp} {t : Addr} {r : List Int} (h : SqL K H t (r.map V.int)) (l : r.length ≤ 1000) : ∀ n : Nat, RowsIn K H (List.replicate n t) (List.replicate n r)
  | 0 => .nil
  | n + 1 => .cons ⟨h, l⟩ (RowsIn.rep h l n)
end CH
end

section
set_option Elab.async false
set_option linter.all false
set_option maxRecDepth 100000
set_option maxHeartbeats 4000000
/-! written data, laid in one step -/
namespace CH
open PySem PySem.Spec PyProof.Rows L2
/-- data as a program writes them -/
inductive Lt where
  | int (i : Int)
  | str (x : Str)
  | bl (b : Bool)
  | non
  | tup (l : List Lt)
  | lst (l : List Lt)
mutual
/-- such data stand at a value, all new or not -/
def Lt.at_ (H : Hp) : Lt → V → Prop
  | .int i, v => v = .int i
  | .str x, v => v = .str x
  | .bl b, v => v = .bl b
  | .non, v => v = .non
  | .tup l, v => ∃ a vs, v = .ref a ∧ H a = some (.tup vs) ∧ Lt.ats H l vs
  | .lst l, v => ∃ a vs, v = .ref a ∧ H a = some (.lst vs) ∧ Lt.ats H l vs
def Lt.ats (H : Hp) : List Lt → List V → Prop
  | [], vs => vs = []
  | d :: ds, vs => ∃ v ws, vs = v :: ws ∧ Lt.at_ H d v ∧ Lt.ats H ds ws
end
mutual
theorem Lt.at_k {H H' : Hp} (k : Kx H H') : ∀ (d : Lt) (v : V), Lt.at_ H d v → Lt.at_ H' d v
  | .int _, _, h => h
  | .str _, _, h => h
  | .bl _, _, h => h
  | .non, _, h => h
  | .tup l, v, h => by
    obtain ⟨a, vs, e, b, c⟩ := h
    exact ⟨a, vs, e, k.tup b, Lt.ats_k k l vs c⟩
  | .lst l, v, h => by
    obtain ⟨a, vs, e, b, c⟩ := h
    exact ⟨a, vs, e, k.lst b, Lt.ats_k k l vs c⟩
theorem Lt.ats_k {H H' : Hp} (k : Kx H H') : ∀ (ds : List Lt) (vs : List V), Lt.ats H ds vs → Lt.ats H' ds vs
  | [], _, h => h
  | d :: ds, vs, h => by
    obtain ⟨v, ws, e, a, b⟩ := h
    exact ⟨v, ws, e, Lt.at_k k d v a, Lt.ats_k k ds ws b⟩
end
theorem Lt.ats_len {H : Hp} : ∀ {ds : List Lt} {vs : List V}, Lt.ats H ds vs → vs.length = ds.length
  | [], _, h => by rw [show _ = [] from h] <;> rfl
  | d :: ds, vs, h => by
    obtain ⟨v, ws, rfl, a, b⟩ := h
    rw [List.length_cons, List.length_cons, Lt.ats_len b]
theorem Lt.ats_app {H : Hp} : ∀ {ds es : List Lt} {vs ws : List V}, Lt.ats H ds vs → Lt.ats H es ws → Lt.ats H (ds ++ es) (vs ++ ws)
  | [], _, _, _, h, g => by
    rw [show _ = [] from h]
    exact g
  | d :: ds, es, vs, ws, h, g => by
    obtain ⟨v, us, rfl, a, b⟩ := h
    exact ⟨v, us ++ ws, rfl, a, Lt.ats_app b g⟩
def tLit (d : Lt) : TE := fun _ H Q => ∀ (v : V) (H' : Hp), Kx H H' → Lt.at_ H' d v → Q v H'
def tLits (ds : List Lt) : TA := fun _ H Q => ∀ (vs : List V) (H' : Hp), Kx H H' → Lt.ats H' ds vs → Q vs H'
section
variable {X : Cx} {e : Expr} {es : List Expr} {t t' : TE} {ta ta' : TA} {pos : Pos}
theorem PE.weak (h : PE X e t) (k : ∀ σ H Q, t' σ H Q → t σ H Q) : PE X e t' := ⟨fun pins s σ H Q I q => h.run pins s σ H Q I (k σ H Q q)⟩
theorem PA.weak (h : PA X es ta) (k : ∀ σ H Q, ta' σ H Q → ta σ H Q) : PA X es ta' := ⟨fun pos pins s σ H Q I q => h.run pos pins s σ H Q I (k σ H Q q)⟩
theorem pl_int {i j} : PE X (.Constant (.int i) j pos) (tLit (.int i)) := PE.weak pe_int fun _ H Q q => q _ H (Kx.refl H) rfl
theorem pl_str {x j} : PE X (.Constant (.str x) j pos) (tLit (.str x)) := PE.weak pe_str fun _ H Q q => q _ H (Kx.refl H) rfl
theorem pl_bl {b j} : PE X (.Constant (.bool b) j pos) (tLit (.bl b)) := PE.weak pe_bl fun _ H Q q => q _ H (Kx.refl H) rfl
theorem pl_non {j} : PE X (.Constant .none j pos) (tLit .non) := PE.weak pe_non fun _ H Q q => q _ H (Kx.refl H) rfl
theorem pl_neg {i : Int} (h : PE X e (tLit (.int i))) : PE X (.UnaryOp .USub e pos) (tLit (.int (-i))) := PE.weak (pe_un un_neg h) fun _ H Q q v H' k a => ⟨i, a, q _ H' k rfl⟩
theorem pls_nil : PA X [] (tLits []) := PA.weak pa_nil fun _ H Q q => q _ H (Kx.refl H) rfl
theorem pls_cons {d : Lt} {ds : List Lt} (he : PE X e (tLit d)) (h : PA X es (tLits ds)) (hs : starEach (e :: es) X.env = (false, eval e X.env) :: starEach es X.env := by rfl) : PA X (e :: es) (tLits (d :: ds)) :=
  PA.weak (pa_cons he h hs) fun _ H Q q v H1 k1 a vs H2 k2 b => q _ H2 (k1.trans k2) ⟨v, vs, rfl, Lt.at_k k2 d v a, b⟩
theorem pl_tup {ds : List Lt} {x1} (h : PA X es (tLits ds)) (n : ds.length ≤ 1000 := by decide) : PE X (.Tuple es x1 pos) (tLit (.tup ds)) :=
  PE.weak (pe_tup h) fun _ H Q q vs H1 k1 b => ⟨by rw [Lt.ats_len b]; exact small80 (by omega), fun p np => q _ _ (k1.trans (Kx.new np)) ⟨p, vs, rfl, upd_same, Lt.ats_k (Kx.new np) ds vs b⟩⟩
theorem pl_lst {ds : List Lt} (h : PA X es (tLits ds)) (n : ds.length ≤ 1000 := by decide) : PE X (.List es pos) (tLit (.lst ds)) :=
  PE.weak (pe_lst h) fun _ H Q q vs H1 k1 b => ⟨by rw [Lt.ats_len b]; exact small80 (by omega), fun p np => q _ _ (k1.trans (Kx.new np)) ⟨p, vs, rfl, upd_same, Lt.ats_k (Kx.new np) ds vs b⟩⟩
end
/-! what they are -/
def Wd.lt (w : Wd) : Lt := .tup [.int w.c, .int w.h, .int w.p, .int w.o, .str w.a]
def wordsLt (ws : List Wd) : Lt := .lst (ws.map Wd.lt)
def isLt (ns : List Int) : List Lt := ns.map Lt.int
def Mt.lt (m : Mt) : Lt := .tup [.tup (isLt m.ps), .int m.e, .tup (isLt m.nds)]
theorem ints_at {H : Hp} : ∀ {ns : List Int} {vs : List V}, Lt.ats H (isLt ns) vs → vs = ns.map V.int
  | [], _, h => h
  | n :: ns, vs, h => by
    obtain ⟨v, ws, rfl, a, b⟩ := h
    rw [show v = .int n from a, ints_at b] <;> rfl
theorem intsL {H : Hp} {ns : List Int} {v : V} (h : Lt.at_ H (.lst (isLt ns)) v) : ∃ a, v = .ref a ∧ H a = some (.lst (ns.map V.int)) := by
  obtain ⟨a, vs, e, b, c⟩ := h
  rw [ints_at c] at b
  exact ⟨a, e, b⟩
theorem intsT {H : Hp} {ns : List Int} {v : V} (h : Lt.at_ H (.tup (isLt ns)) v) : ∃ a, v = .ref a ∧ H a = some (.tup (ns.map V.int)) := by
  obtain ⟨a, vs, e, b, c⟩ := h
  rw [ints_at c] at b
  exact ⟨a, e, b⟩
theorem wd_at {H : Hp} {w : Wd} {v : V} (h : Lt.at_ H w.lt v) : ∃ a, v = .ref a ∧ H a = some (.tup w.V) := by
  obtain ⟨a, vs, e, b, v1, w1, rfl, e1, v2, w2, rfl, e2, v3, w3, rfl, e3, v4, w4, rfl, e4, v5, w5, rfl, e5, e6⟩ := h
  rw [show v1 = .int w.c from e1, show v2 = .int w.h from e2, show v3 = .int w.p from e3, show v4 = .int w.o from e4, show v5 = .str w.a from e5, show w5 = [] from e6] at b
  exact ⟨a, e, b⟩
theorem wds_at {H : Hp} : ∀ {ws : List Wd} {vs : List V}, Lt.ats H (ws.map Wd.lt) vs → ∃ ts : List Addr, vs = ts.map V.ref ∧ TAt H ts ws
  | [], _, h => ⟨[], h, .nil⟩
  | w :: ws, vs, h => by
    obtain ⟨v, us, rfl, a, b⟩ := h
    obtain ⟨t, rfl, ht⟩ := wd_at a
    obtain ⟨ts, rfl, hts⟩ := wds_at b
    exact ⟨t :: ts, rfl, .cons ht hts⟩
theorem words_lt {H : Hp} {ws : List Wd} {v : V} (h : Lt.at_ H (wordsLt ws) v) : ∃ (l : Addr) (ts : List Addr), v = .ref l ∧ H l = some (.lst (ts.map V.ref)) ∧ TAt H ts ws := by
  obtain ⟨a, vs, e, b, c⟩ := h
  obtain ⟨ts, rfl, ht⟩ := wds_at c
  exact ⟨a, ts, e, b, ht⟩
theorem mt_at {K : PySem.W.Frag} {H : Hp} {m : Mt} {v : V} (h : Lt.at_ H m.lt v) : ∃ a, v = .ref a ∧ MAt K H a m := by
  obtain ⟨a, vs, e, b, v1, w1, rfl, e1, v2, w2, rfl, e2, v3, w3, rfl, e3, e6⟩ := h
  obtain ⟨p, rfl, hp⟩ := intsT e1
  obtain ⟨n, rfl, hn⟩ := intsT e3
  rw [show v2 = .int m.e from e2, show w3 = [] from e6] at b
  exact ⟨a, e, p, n, st_of b, st_of hp, st_of hn⟩
end CH
end

section
set_option Elab.async false
set_option linter.all false
set_option maxRecDepth 100000
set_option maxHeartbeats 4000000
namespace CH
open PySem PySem.Spec PyProof.Rows L2
/-- [list(x) for x in xs], xs lists of numbers: new ones -/
theorem lc_copies {K K1 : PySem.W.Frag} {a : Addr} {ts : List Addr} {rs : List (List Int)} {i : Nat} {vs : List Nat} {σ : L2.St} {H0 : Hp} {D : Addr} {Qd : Hp → Prop} (eK : K1 = K) (hl : SqL K H0 a (ts.map V.ref)) (hrs : RowsIn K H0 ts rs) (nD : H0 D = none) (h4 : rs.length ≤ 4000)
    (hw : ∀ x, wipe ((wipe σ vs).set i (some x)) vs = wipe σ vs) (hg : ∀ x : V, ((wipe σ vs).set i (some x))[i]? = some (some x))
    (hd : ∀ (H3 : Hp) (us : List Addr), Kx H0 H3 → H3 D = some (.lst (us.map V.ref)) → RowsAt H3 us rs → us.Nodup → (∀ u ∈ us, H0 u = none ∧ u ≠ D) → Qd H3) :
    ∃ W : Nat → Nat → Hp → Prop, (∃ m, W 0 m (upd H0 D (.lst []))) ∧ ∀ i1 m H, W i1 m H →
      ((Itl K a).stop i1 H ∧ Qd H) ∨ ((Itl K a).go i1 H ∧ ∃ Nx : Hp → Prop, (∀ H', Nx H' → ∃ m', m' < m ∧ W (i1 + 1) m' H') ∧ ∀ x H', (Itl K a).yld i1 H x H' → gName i x (wipe σ vs) H' fun σ2 H2 => wipe σ2 vs = wipe σ vs ∧ tYes σ2 H2 fun b H3 =>
        if b = true then tCB (rListOf K1) (tCons (tVar i) tNil) σ2 H3 fun y H4 => ∃ acc, H4 D = some (.lst acc) ∧ acc.length < sizeLine ∧ Nx (upd H4 D (.lst (acc ++ [y]))) else Nx H3) := by
  subst eK
  have len := paired_len hrs
  refine lc_list (K := K1) (a := a) (xs := ts.map V.ref) (fun j H2 => Kx H0 H2 ∧ ∃ us : List Addr, H2 D = some (.lst (us.map V.ref)) ∧ RowsAt H2 us (rs.take j) ∧ us.Nodup ∧ (∀ u ∈ us, H0 u = none ∧ u ≠ D) ∧ us.length = j)
      ⟨Kx.new nD, [], upd_same, .nil, List.nodup_nil, fun u h => absurd h (by simp), rfl⟩ (fun i H2 _ h => h.1.l hl) ?_ ?_
  · rintro j y H2 hj ⟨k2, us, hd2, hus, nus, fus, lus⟩
    obtain ⟨t, ht, rfl⟩ : ∃ t, ts[j]? = some t ∧ V.ref t = y := by
      rw [List.getElem?_map] at hj
      exact Option.map_eq_some_iff.mp hj
    obtain ⟨r, hr, hsq, hle⟩ := paired_at hrs ht
    have hjl : j < ts.length := (List.getElem?_eq_some_iff.mp ht).1
    refine ⟨hw _, yesT ?_⟩
    refine ⟨_, hg _, t, _, rfl, .inl (k2.l hsq), fun u nu => ?_⟩
    have k3 : Kx H2 (upd H2 u (.lst (r.map V.int))) := Kx.new nu
    have nuD : u ≠ D := fun z => by rw [z, hd2] at nu; cases nu
    refine ⟨_, k3.lst hd2, by rw [List.length_map]; exact lt80 (by omega), (k2.trans k3).mut nD, us ++ [u], by rw [upd_same, List.map_append] <;> rfl, ?_, ?_, fun y hy => ?_, by rw [List.length_append, lus] <;> rfl⟩
    · rw [List.take_add_one, hr]
      refine RowsAt.up (paired_snoc (hus.k k3) ⟨upd_same, hle⟩) fun y hy => ?_
      rcases List.mem_append.mp hy with hy | hy
      · exact (fus y hy).2
      · rw [List.mem_singleton.mp hy]
        exact nuD
    · refine List.nodup_append.mpr ⟨nus, List.nodup_cons.mpr ⟨by simp, List.nodup_nil⟩, fun x hx y hy e => ?_⟩
      rw [List.mem_singleton.mp hy] at e
      subst e
      obtain ⟨i, hi⟩ := List.mem_iff_getElem?.mp hx
      obtain ⟨r', _, h1, _⟩ := paired_at hus hi
      rw [nu] at h1
      cases h1
    · rcases List.mem_append.mp hy with hy | hy
      · exact fus y hy
      · rw [List.mem_singleton.mp hy]
        exact ⟨k2.f _ nu, nuD⟩
  · rintro H2 ⟨k2, us, hd2, hus, nus, fus, lus⟩
    rw [List.length_map, len, List.take_length] at hus
    exact hd H2 us k2 hd2 hus nus fus
end CH
end

section
set_option Elab.async false
set_option linter.all false
set_option maxRecDepth 100000
set_option maxHeartbeats 4000000
namespace CH
open PySem PySem.Spec PyProof.Rows L2
theorem sql_up {K : PySem.W.Frag} {H : Hp} {a p : Addr} {xs : List V} {o : HO} (h : SqL K H a xs) (n : a ≠ p) : SqL K (upd H p o) a xs := by
  rcases h with h | h
  · refine .inl ?_
    rcases h with h | ⟨ob, h⟩
    · exact .inl (by rw [upd_ne n]; exact h)
    · exact .inr ⟨ob, by rw [upd_ne n]; exact h⟩
  · exact .inr h
/-- a short list of numbers, that is not z -/
def IsOk (K : PySem.W.Frag) (H : Hp) (z q : Addr) : Prop := ∃ ns : List Int, SqL K H q (ns.map V.int) ∧ ns.length ≤ 900 ∧ q ≠ z
theorem IsOk.k {K : PySem.W.Frag} {H H' : Hp} {z q : Addr} (k : Kx H H') (h : IsOk K H z q) : IsOk K H' z q := by
  obtain ⟨ns, a, b, c⟩ := h
  exact ⟨ns, k.l a, b, c⟩
theorem IsOk.up {K : PySem.W.Frag} {H : Hp} {z q : Addr} {o : HO} (h : IsOk K H z q) : IsOk K (upd H z o) z q := by
  obtain ⟨ns, a, b, c⟩ := h
  exact ⟨ns, sql_up a c, b, c⟩
/-- a list of rows, few and short; z is none of them -/
def RsX (K : PySem.W.Frag) (H : Hp) (z q : Addr) : Prop := ∃ (ts : List Addr) (rs : List (List Int)), SqL K H q (ts.map V.ref) ∧ RowsIn K H ts rs ∧ rs.length ≤ 100 ∧ (∀ x ∈ rs, x.length ≤ 900) ∧ q ≠ z ∧ ∀ t ∈ ts, t ≠ z
theorem RsX.k {K : PySem.W.Frag} {H H' : Hp} {z q : Addr} (k : Kx H H') (h : RsX K H z q) : RsX K H' z q := by
  obtain ⟨ts, rs, a, b, c, d, e, f⟩ := h
  exact ⟨ts, rs, k.l a, b.k k, c, d, e, f⟩
theorem rowsIn_up {K : PySem.W.Frag} {H : Hp} {z : Addr} {o : HO} {ts : List Addr} {rs : List (List Int)} (h : RowsIn K H ts rs) (n : ∀ t ∈ ts, t ≠ z) : RowsIn K (upd H z o) ts rs := by
  induction h with
  | nil => exact .nil
  | @cons t r ts rs a b ih => exact .cons ⟨sql_up a.1 (n t List.mem_cons_self), a.2⟩ (ih fun t ht => n t (List.mem_cons_of_mem _ ht))
theorem RsX.up {K : PySem.W.Frag} {H : Hp} {z q : Addr} {o : HO} (h : RsX K H z q) : RsX K (upd H z o) z q := by
  obtain ⟨ts, rs, a, b, c, d, e, f⟩ := h
  exact ⟨ts, rs, sql_up a e, rowsIn_up b f, c, d, e, f⟩
/-- rows[:spot] + X + rows[spot + 1:], X a list of one row -/
theorem put_row {K K1 : PySem.W.Frag} {iR iS : Nat} {σ : L2.St} {H : Hp} {Q : VK} {X : TE} {R : Addr} {us : List Addr} {rs : List (List Int)} {sp : Nat} (e : K1 = K) (h1 : σ[iR]? = some (some (.ref R))) (h2 : σ[iS]? = some (some (.int (sp : Int))))
    (hR : H R = some (.lst (us.map V.ref))) (hus : RowsAt H us rs) (l50 : rs.length ≤ 50) (l8 : ∀ x ∈ rs, x.length ≤ 8) {z : Addr} {oz : HO} (hz : H z = some oz) (nz : ∀ t ∈ us, t ≠ z)
    (hX : ∀ H', Kx H H' → ∀ Q' : VK, (∀ (H1 : Hp) (xl q : Addr), Kx H' H1 → H1 xl = some (.lst [.ref q]) → IsOk K H1 z q → Q' (.ref xl) H1) → X σ H' Q') (q : ∀ (H' : Hp) (p : Addr), Kx H H' → H p = none → RsX K H' z p → Q (.ref p) H') :
    tOp rCat (tOp rCat (tSl (rSlL K1) (tVar iR) tNoPart (tPart (tVar iS))) X) (tSl (rSlL K1) (tVar iR) (tPart (tOp (rI0 fun i j => V.int (i + j)) (tVar iS) (tC (.int 1)))) tNoPart) σ H Q := by
  subst e
  have len := paired_len hus
  refine ⟨_, h1, _, h2, _, rfl, R, _, rfl, sq_of hR, fun p1 n1 => ?_⟩
  rw [cutV_take, ← List.map_take]
  have k1 : Kx H (upd H p1 (.lst ((us.take sp).map V.ref))) := Kx.new n1
  have hp1 : (upd H p1 (.lst ((us.take sp).map V.ref))) p1 = some (.lst ((us.take sp).map V.ref)) := upd_same
  generalize upd H p1 (.lst ((us.take sp).map V.ref)) = H1 at k1 hp1 ⊢
  refine hX H1 k1 _ fun H2 xl x k2 hxl hx => ?_
  refine ⟨p1, xl, _, _, rfl, rfl, k2.lst hp1, hxl, by rw [List.length_map, List.length_take]; show _ + 1 ≤ sizeLine; exact small80 (by omega), fun p3 n3 => ?_⟩
  rw [show (us.take sp).map V.ref ++ [V.ref x] = (us.take sp ++ [x]).map V.ref by rw [List.map_append] <;> rfl]
  have k3 : Kx H2 (upd H2 p3 (.lst ((us.take sp ++ [x]).map V.ref))) := Kx.new n3
  have hp3 : (upd H2 p3 (.lst ((us.take sp ++ [x]).map V.ref))) p3 = some (.lst ((us.take sp ++ [x]).map V.ref)) := upd_same
  generalize upd H2 p3 (.lst ((us.take sp ++ [x]).map V.ref)) = H3 at k3 hp3 ⊢
  have k03 := (k1.trans k2).trans k3
  refine ⟨_, h1, _, h2, _, _, rfl, rfl, _, rfl, R, _, rfl, sq_of (k03.lst hR), fun p4 n4 => ?_⟩
  rw [show ((sp : Int) + 1) = ((sp + 1 : Nat) : Int) from rfl, cutV_drop, ← List.map_drop]
  have k4 : Kx H3 (upd H3 p4 (.lst ((us.drop (sp + 1)).map V.ref))) := Kx.new n4
  have hp4 : (upd H3 p4 (.lst ((us.drop (sp + 1)).map V.ref))) p4 = some (.lst ((us.drop (sp + 1)).map V.ref)) := upd_same
  generalize upd H3 p4 (.lst ((us.drop (sp + 1)).map V.ref)) = H4 at k4 hp4 ⊢
  refine ⟨p3, p4, _, _, rfl, rfl, k4.lst hp3, hp4, by rw [List.length_map, List.length_map, List.length_append, List.length_take, List.length_drop]; show _ + 1 + _ ≤ sizeLine; exact small80 (by omega), fun p5 n5 => ?_⟩
  rw [← List.map_append]
  have k5 : Kx H4 (upd H4 p5 (.lst ((us.take sp ++ [x] ++ us.drop (sp + 1)).map V.ref))) := Kx.new n5
  have k05 := (k03.trans k4).trans k5
  obtain ⟨ns, hns, l900, nxz⟩ := hx
  have npz : p5 ≠ z := fun e => by rw [e] at n5; rw [(k03.trans k4).f _ n5] at hz; cases hz
  refine q _ p5 k05 ((k03.trans k4).f _ n5) ⟨_, rs.take sp ++ [ns] ++ rs.drop (sp + 1), sq_of upd_same, ?_, ?_, fun y hy => ?_, npz, fun t ht => ?_⟩
  · have hin := (RowsAt.in_ (K := K1) hus).k k05
    exact ((hin.take sp).app (.cons ⟨((k3.trans k4).trans k5).l hns, by omega⟩ .nil)).app (hin.drop (sp + 1))
  · rw [List.length_append, List.length_append, List.length_take, List.length_drop]
    show _ + 1 + _ ≤ 100
    omega
  · rcases List.mem_append.mp hy with hy | hy
    · rcases List.mem_append.mp hy with hy | hy
      · have := l8 y (List.mem_of_mem_take hy)
        omega
      · rw [List.mem_singleton.mp hy]
        exact l900
    · have := l8 y (List.mem_of_mem_drop hy)
      omega
  · rcases List.mem_append.mp ht with ht | ht
    · rcases List.mem_append.mp ht with ht | ht
      · exact nz t (List.mem_of_mem_take ht)
      · rw [List.mem_singleton.mp ht]
        exact nxz
    · exact nz t (List.mem_of_mem_drop ht)
end CH
end

section
set_option Elab.async false
set_option linter.all false
set_option maxRecDepth 100000
set_option maxHeartbeats 4000000
/-! min(xs) of tuples of numbers; xs[i] op= e -/
namespace CH
open PySem PySem.Spec PyProof.Rows L2
theorem headLt {y a : Int} {ys as : List Int} : (PySem.W.listLt (y :: ys) (a :: as) = true → y ≤ a) ∧ (PySem.W.listLt (y :: ys) (a :: as) = false → a ≤ y) := by
  have e : PySem.W.listLt (y :: ys) (a :: as) = if y = a then PySem.W.listLt ys as else decide (y < a) := rfl
  rw [e]
  by_cases h : y = a
  · subst h
    exact ⟨fun _ => Int.le_refl _, fun _ => Int.le_refl _⟩
  · rw [if_neg h]
    exact ⟨fun z => by have := of_decide_eq_true z; omega, fun z => by have := of_decide_eq_false z; omega⟩
/-- a row that is not empty, and its first number -/
def hd0 (r : List Int) : Int := r.headD 0
theorem minOf_head : ∀ (xs : List (PySem.W.Tup Int)) (x : PySem.W.Tup Int), (∀ y ∈ x :: xs, y.items ≠ []) → (PySem.W.minOf x xs) ∈ x :: xs ∧ ∀ y ∈ x :: xs, hd0 (PySem.W.minOf x xs).items ≤ hd0 y.items
  | [], x, _ => ⟨List.mem_cons_self, fun y hy => by rw [List.mem_singleton.mp hy]; exact Int.le_refl _⟩
  | z :: zs, x, hn => by
    have e : PySem.W.minOf x (z :: zs) = PySem.W.minOf (if PySem.W.DatumOrd.lt z x = true then z else x) zs := rfl
    rw [e]
    have nx := hn x List.mem_cons_self
    have nz := hn z (List.mem_cons_of_mem _ List.mem_cons_self)
    have key : ∀ b : Bool, PySem.W.DatumOrd.lt z x = b → (b = true → hd0 z.items ≤ hd0 x.items) ∧ (b = false → hd0 x.items ≤ hd0 z.items) := fun b hb => by
      have hb : PySem.W.listLt z.items x.items = b := hb
      cases ez : z.items with
      | nil => exact absurd ez nz
      | cons a as =>
        cases ex : x.items with
        | nil => exact absurd ex nx
        | cons c cs =>
          rw [ez, ex] at hb
          exact ⟨fun t => headLt.1 (hb.trans t), fun t => headLt.2 (hb.trans t)⟩
    by_cases c : PySem.W.DatumOrd.lt z x = true
    · rw [if_pos c]
      obtain ⟨m, le⟩ := minOf_head zs z fun y hy => hn y (List.mem_cons_of_mem _ hy)
      refine ⟨List.mem_cons_of_mem _ m, fun y hy => ?_⟩
      rcases List.mem_cons.mp hy with rfl | hy
      · exact Int.le_trans (le z List.mem_cons_self) ((key _ c).1 rfl)
      · exact le y hy
    · rw [if_neg c]
      have cf := Bool.eq_false_iff.mpr c
      obtain ⟨m, le⟩ := minOf_head zs x fun y hy => by
        rcases List.mem_cons.mp hy with rfl | hy
        · exact nx
        · exact hn y (List.mem_cons_of_mem _ (List.mem_cons_of_mem _ hy))
      refine ⟨?_, fun y hy => ?_⟩
      · rcases List.mem_cons.mp m with h | h
        · rw [h]
          exact List.mem_cons_self
        · exact List.mem_cons_of_mem _ (List.mem_cons_of_mem _ h)
      · rcases List.mem_cons.mp hy with rfl | hy
        · exact le y List.mem_cons_self
        rcases List.mem_cons.mp hy with rfl | hy
        · exact Int.le_trans (le x List.mem_cons_self) ((key _ cf).2 rfl)
        · exact le y (List.mem_cons_of_mem _ hy)
/-- min(xs), xs a list of tuples of numbers: one of them, none has a less first number -/
def rMinT (K : PySem.W.Frag) : List V → Hp → VK → Prop := fun vs H Q => ∃ (a : Addr) (ts : List Addr) (rs : List (List Int)), vs = [V.ref a] ∧ SqL K H a (ts.map V.ref) ∧ Paired (fun t (r : List Int) => SqT K H t (r.map V.int)) ts rs ∧ ts ≠ [] ∧ (∀ r ∈ rs, r ≠ []) ∧
  ∀ (i : Nat) (t : Addr) (r : List Int), ts[i]? = some t → rs[i]? = some r → (∀ r' ∈ rs, hd0 r ≤ hd0 r') → Q (.ref t) H
section
variable {X : Cx}
theorem tups_dp {K : PySem.W.Frag} {H : Hp} {ts : List Addr} {rs : List (List Int)} (h : Paired (fun t (r : List Int) => SqT K H t (r.map V.int)) ts rs) : DpAll K H (ts.map V.ref) ((rs.map PySem.W.Tup.mk).map PySem.W.Datum.toD) := by
  induction h with
  | nil => exact .nil
  | @cons t r ts rs a b ih => exact .cons (.tup a (ints_dp r)) ih
theorem cr_minT (hu : X.A.units + 64 < cLine) (hc : X.calm = true := by rfl) : CallR X (.builtin "min") (rMinT X.K) := by
  intro pins s σ H vs us Q I r h
  obtain ⟨a, ts, rs, rfl, hs, hp, hne, hrn, q⟩ := h
  obtain ⟨its, rv, hl, _⟩ := I.list hs
  rw [Vals.ref1 r]
  obtain ⟨as, hra⟩ := Dp.readsAll I _ _ _ (tups_dp hp) rv
  have len := paired_len hp
  have evs := refs_vals rv
  cases rs with
  | nil =>
    rw [List.length_nil] at len
    exact absurd (List.eq_nil_of_length_eq_zero len) hne
  | cons x xs =>
    refine PySem.W.min_list_datum (α := PySem.W.Tup Int) (x := ⟨x⟩) (xs := xs.map PySem.W.Tup.mk) (I.ok.hd hc) hl.isList ⟨as, by simpa using hra⟩ (by show X.A.units + 1 + 1 < cLine; omega) fun i v h' tk hv hh hk => ?_
    have hv2 : its[i]? = some v := by simpa using hv
    rw [evs, List.getElem?_map] at hv2
    obtain ⟨t, ht, rfl⟩ := Option.map_eq_some_iff.mp hv2
    obtain ⟨rr, hrr, hsq⟩ := paired_at hp ht
    obtain ⟨bs, hb⟩ := hh
    obtain ⟨cs, hcs⟩ := Dp.reads I (PySem.W.Datum.toD (PySem.W.Tup.mk rr)) (.ref t) (.ref t) (.tup hsq (ints_dp rr)) rfl
    have e1 : PySem.W.Datum.toD (PySem.W.minOf (PySem.W.Tup.mk x) (xs.map PySem.W.Tup.mk)) = PySem.W.Datum.toD (PySem.W.Tup.mk rr) := (reads_det (fun b o e _ => hk b o e) hcs hb).1
    have e2 : PySem.W.minOf (PySem.W.Tup.mk x) (xs.map PySem.W.Tup.mk) = PySem.W.Tup.mk rr := by
      have z := PySem.W.Datum.eqv (PySem.W.minOf (PySem.W.Tup.mk x) (xs.map PySem.W.Tup.mk)) (PySem.W.Tup.mk rr)
      rw [e1, PySem.W.Datum.eqv, decide_eq_true rfl] at z
      exact of_decide_eq_true z.symm
    obtain ⟨_, mn⟩ := minOf_head (xs.map PySem.W.Tup.mk) (PySem.W.Tup.mk x) fun y hy => by
      rw [← List.map_cons (f := PySem.W.Tup.mk)] at hy
      obtain ⟨r', hr', rfl⟩ := List.mem_map.mp hy
      exact hrn r' hr'
    rw [e2] at mn
    refine ⟨.ref t, H, I.kept hk, rfl, q i t rr ht hrr fun r' hr' => mn (PySem.W.Tup.mk r') ?_⟩
    rw [← List.map_cons (f := PySem.W.Tup.mk)]
    exact List.mem_map.mpr ⟨r', hr', rfl⟩
end
end CH
namespace CH
open PySem PySem.Spec PyProof.Rows L2
/-- xs[i], by values, i not negative -/
def rGetL (K : PySem.W.Frag) : V → V → Hp → VK → Prop := fun x y H Q => ∃ (p : Addr) (xs : List V) (j : Nat) (v : V), x = .ref p ∧ y = .int (j : Int) ∧ SqL K H p xs ∧ xs[j]? = some v ∧ Q v H
theorem pget_list {X : Cx} : PGet X (rGetL X.K) := by
  intro pins s σ H o i ov iv Q I ro ri h
  obtain ⟨p, xs, j, z, rfl, rfl, hq, he, q⟩ := h
  cases ro
  obtain ⟨t, rfl⟩ := ri
  obtain ⟨its, r, pl, hz⟩ := I.list hq
  obtain ⟨w, ew, rw'⟩ := r.get he
  have hl := r.length
  have hn := line63
  have hj : j < xs.length := (List.getElem?_eq_some_iff.mp he).1
  exact wpAny_getItem_list pl.isList (by omega) (by omega) (by simpa using ew) ⟨z, H, I, rw', q⟩
/-- a.f[i] op= e, a.f a list -/
theorem ps_augL {X : Cx} {o i e : Expr} {to ti te : TE} {tip : TIp} {op : Operator} {tpos pos : Pos} (ho : PE X o to) (hi : PE X i ti) (he : PE X e te) (hp : PIp X op tip)
    (ha : ∀ ov iv new, augStore i ov iv new = (do holding [new, ov, iv] (setItem ov iv new); release [new, ov, iv] []; pure .next) := by intros; rfl) : PS X (.AugAssign (.Subscript o i tpos) op e pos) (tAugS to ti te (rGetL X.K) tip rSetL) :=
  ps_augS ho hi pget_list he hp set_list ha
end CH
end

section
set_option Elab.async false
set_option linter.all false
set_option maxRecDepth 100000
set_option maxHeartbeats 4000000
/-! dicts locked, several at once -/
namespace CH
open PySem PySem.Spec PyProof.Rows L2
def lockN : Nat → TE → TE
  | 0, t => t
  | n + 1, t => tLockE (lockN n t)
theorem pe_lockN' {X : Cx} {e : Expr} {t : TE} (h : PE X e t) : ∀ n : Nat, PE X e (lockN n t)
  | 0 => h
  | n + 1 => pe_lock (pe_lockN' h n)
/-- as many locks as are wanted -/
theorem pe_lockN {X : Cx} {e : Expr} {t : TE} (h : PE X e t) : PE X e (fun σ H Q => ∃ n, lockN n t σ H Q) := ⟨fun pins s σ H Q I ⟨n, q⟩ => (pe_lockN' h n).run pins s σ H Q I q⟩
/-- the dicts of ds are locked in G, all else stands as in H -/
structure Lk (ds : List Addr) (H G : Hp) : Prop where
  out : ∀ b, b ∉ ds → G b = H b
  in_ : ∀ d ∈ ds, ∃ od u, H d = some u ∧ Mut (some u) ∧ G d = some (.frz od u)
/-- behind the locks: what stood stands, the rest is as in H' -/
structure Ul (ds : List Addr) (H H' U : Hp) : Prop where
  out : ∀ b, b ∉ ds → U b = H' b
  in_ : ∀ d ∈ ds, U d = H d
theorem lock_all {t : TE} {σ : L2.St} : ∀ (ds : List Addr) (H : Hp) (Q : VK), ds.Nodup → (∀ d ∈ ds, ∃ u, H d = some u ∧ Mut (some u)) →
    (∀ (G : Hp) (Q' : VK), Lk ds H G → (∀ v H', (∀ d ∈ ds, H' d = G d) → (∀ U, Ul ds H H' U → Q v U) → Q' v H') → t σ G Q') → lockN ds.length t σ H Q
  | [], H, Q, _, _, h => h H Q ⟨fun b _ => rfl, fun d hd => absurd hd (by simp)⟩ fun v H' _ q => q H' ⟨fun b _ => rfl, fun d hd => absurd hd (by simp)⟩
  | d :: ds, H, Q, nd, hd, h => by
    obtain ⟨n1, n2⟩ := List.nodup_cons.mp nd
    obtain ⟨u, hu, mu⟩ := hd d List.mem_cons_self
    have ne : ∀ e ∈ ds, e ≠ d := fun e he z => n1 (by rw [← z]; exact he)
    refine ⟨d, u, hu, mu, fun od => ?_⟩
    refine lock_all ds _ _ n2 (fun e he => ?_) (fun G Q' lk hq' => ?_)
    · obtain ⟨u', h1, h2⟩ := hd e (List.mem_cons_of_mem _ he)
      exact ⟨u', by rw [upd_ne (ne e he)]; exact h1, h2⟩
    · have hGd : G d = some (.frz od u) := by rw [lk.out d n1, upd_same]
      refine h G Q' ⟨fun b hb => ?_, fun e he => ?_⟩ fun v H' a q => hq' v H' (fun e he => a e (List.mem_cons_of_mem _ he)) fun U ul => ⟨?_, ?_⟩
      · have hb1 : b ≠ d := fun z => hb (by rw [z]; exact List.mem_cons_self)
        rw [lk.out b fun z => hb (List.mem_cons_of_mem _ z), upd_ne hb1]
      · rcases List.mem_cons.mp he with rfl | he'
        · exact ⟨od, u, hu, mu, hGd⟩
        · obtain ⟨od', u', h1, h2, h3⟩ := lk.in_ e he'
          rw [upd_ne (ne e he')] at h1
          exact ⟨od', u', h1, h2, h3⟩
      · rw [ul.out d n1, a d List.mem_cons_self, hGd]
      · refine q _ ⟨fun b hb => ?_, fun e he => ?_⟩
        · have hb1 : b ≠ d := fun z => hb (by rw [z]; exact List.mem_cons_self)
          rw [upd_ne hb1]
          exact ul.out b fun z => hb (List.mem_cons_of_mem _ z)
        · by_cases z : e = d
          · rw [z, upd_same, hu]
          · rw [upd_ne z]
            have he' : e ∈ ds := by
              rcases List.mem_cons.mp he with rfl | he'
              · exact absurd rfl z
              · exact he'
            rw [ul.in_ e he', upd_ne z]
theorem Ul.kx {ds : List Addr} {H G H' U : Hp} (lk : Lk ds H G) (k : Kx G H') (ul : Ul ds H H' U) : Kx H U := by
  refine ⟨fun b u hb n => ?_, fun P t => ?_, fun b hb => ?_⟩
  · by_cases z : b ∈ ds
    · rw [ul.in_ b z]
      exact hb
    · rw [ul.out b z]
      refine k.o b u ?_ n
      rw [lk.out b z]
      exact hb
  · have nP : P ∉ ds := fun z => by
      obtain ⟨ps, e, _⟩ := t
      obtain ⟨od, u, h1, h2, _⟩ := lk.in_ P z
      rw [e] at h1
      cases h1
      exact h2
    have tG : GxR.TabG G P := by
      obtain ⟨ps, e, t1⟩ := t
      exact ⟨ps, by rw [lk.out P nP]; exact e, t1⟩
    obtain ⟨qs, e2, t2⟩ := k.g P tG
    exact ⟨qs, by rw [ul.out P nP]; exact e2, t2⟩
  · by_cases z : b ∈ ds
    · rw [ul.in_ b z] at hb
      exact hb
    · rw [ul.out b z] at hb
      have := k.f b hb
      rw [lk.out b z] at this
      exact this
/-- all but these stays -/
structure Ke (S : List Addr) (H H' : Hp) : Prop where
  o : ∀ b u, b ∉ S → H b = some u → (∀ ps, u ≠ .tbl ps) → H' b = some u
  g : ∀ P, P ∉ S → GxR.TabG H P → GxR.TabG H' P
  f : ∀ b, H' b = none → H b = none
theorem Kx.ke {S : List Addr} {H H' : Hp} (k : Kx H H') : Ke S H H' := ⟨fun b u _ h n => k.o b u h n, fun P _ h => k.g P h, k.f⟩
theorem Ke.refl (S : List Addr) (H : Hp) : Ke S H H := (Kx.refl H).ke
theorem Ke.trans {S : List Addr} {H H1 H2 : Hp} (a : Ke S H H1) (b : Ke S H1 H2) : Ke S H H2 := ⟨fun c u n h m => b.o c u n (a.o c u n h m) m, fun P n h => b.g P n (a.g P n h), fun c h => a.f c (b.f c h)⟩
theorem Ke.mut {S : List Addr} {H H' : Hp} {p : Addr} {u : HO} (k : Ke S H H') (h : p ∈ S) : Ke S H (upd H' p u) := by
  have ne : ∀ b, b ∉ S → b ≠ p := fun b hb z => hb (by rw [z]; exact h)
  refine ⟨fun b v n e m => by rw [upd_ne (ne b n)]; exact k.o b v n e m, fun P n t => ?_, fun b e => ?_⟩
  · obtain ⟨qs, e2, t2⟩ := k.g P n t
    exact ⟨qs, by rw [upd_ne (ne P n)]; exact e2, t2⟩
  · by_cases hb : b = p
    · rw [hb, upd_same] at e
      cases e
    · rw [upd_ne hb] at e
      exact k.f b e
/-- a new one is changed -/
theorem Ke.fresh {S : List Addr} {H H' : Hp} {p : Addr} {u : HO} (k : Ke S H H') (h : H p = none) : Ke S H (upd H' p u) := by
  refine ⟨fun b v n e m => ?_, fun P n t => ?_, fun b e => ?_⟩
  · rw [upd_ne (ne_of_none e h)]
    exact k.o b v n e m
  · have hP : P ≠ p := by
      obtain ⟨ps, e, _⟩ := t
      exact ne_of_none e h
    obtain ⟨qs, e2, t2⟩ := k.g P n t
    exact ⟨qs, by rw [upd_ne hP]; exact e2, t2⟩
  · by_cases hb : b = p
    · rw [hb, upd_same] at e
      cases e
    · rw [upd_ne hb] at e
      exact k.f b e
/-- what is spared was not there ahead -/
theorem Ke.kx {S : List Addr} {H0 H H' : Hp} (k0 : Kx H0 H) (k : Ke S H H') (n : ∀ b ∈ S, H0 b = none) : Kx H0 H' := by
  refine ⟨fun b u h m => ?_, fun P t => ?_, fun b h => k0.f b (k.f b h)⟩
  · exact k.o b u (fun z => by rw [n b z] at h; cases h) (k0.o b u h m) m
  · have hP : P ∉ S := fun z => by
      obtain ⟨ps, e, _⟩ := t
      rw [n P z] at e
      cases e
    exact k.g P hP (k0.g P t)
end CH
end

section
set_option Elab.async false
set_option linter.all false
set_option maxRecDepth 100000
set_option maxHeartbeats 4000000
/-! sorted(set(xs)), xs a list of whole numbers -/
namespace CH
open PySem PySem.Spec PyProof.Rows L2
/-- a set with nothing in it -/
abbrev bareSet (w : World) : Obj := { cls := .type "set", dict := none, data := .set #[] 0 (.fresh 0 0 (!w.params.followText "set-order")) }
abbrev Shared.more (s : Shared) (o : Obj) : Shared := { s with heap := s.heap.push o }
section
variable {P : Program} {w : World} {A : Around} {E : Value → Shared → Prop} {s : Shared}
/-- what set(xs) leaves: a set of the members of ns at a, all else as it was -/
def SetsOf (w : World) (s : Shared) (ns : List Int) (s2 : Shared) : Prop := ∃ h' tk c, s2 = { s with heap := h', toks := tk } ∧ SetR w h' s.heap.objs.size (fun j => decide (j ∈ ns)) c ∧ c ≤ ns.length ∧ ∀ b o, s.heap.get? b = some o → h'.get? b = some o
theorem call_setL {l : Addr} {items : Array Value} (ns : List Int) {Q : Value → Shared → Prop} (hh : A.handled = none) (hl : s.heap.IsList l items) (hi : IntsAre items.toList ns) (hb : ns.length + 1 < scanBound)
    (h : ∀ s2, SetsOf w s ns s2 → Q (.ref s.heap.objs.size) s2) : wpAny (model P w) A (call (.type "set") [.ref l]) Q E s := by
  have sz : items.size = ns.length := by
    have := IntsAre.length hi
    rwa [Array.length_toList] at this
  have hlt : l < s.heap.objs.size := by
    obtain ⟨o, ho, _⟩ := hl
    exact Heap.lt_size ho
  obtain ⟨c, tl, hmro⟩ := F.called_set.mro
  have made := F.called_set.made
  have sub_ := F.called_set.sub
  have notT := F.called_set.notType
  have canC := F.called_set.canCreate
  have tc := F.typeCall_set_1 (.ref l)
  refine wpAny_call (codeAny_of_tree ?_)
  show wpAny _ _ (callAny (.type "set") _) _ _ _
  refine wpAny_pure ⟨Code.quiet_builtin _ (by decide +kernel), codeAny_builtin F.entry_type_call ?_⟩
  rw [Around.under_plain (weight_type_call_type "set" [.ref l] []) rfl]
  repeat (any_goals (first | assumption | wp_step))
  refine codeAny_mono (code_set_led1 (.ref l) (E := E) (Q₁ := fun v s1 => v = .ref s.heap.objs.size ∧ s1 = Shared.more s (bareSet w)) ⟨rfl, rfl⟩) fun r s1 hr => ?_
  match r, hr with
  | .error _, hr => exact hr
  | .ok (.ret v), hr =>
    obtain ⟨rfl, rfl⟩ := hr
    have at0 : (s.heap.push (bareSet w)).get? s.heap.objs.size = some (bareSet w) := Heap.get?_push_size _ rfl
    have ty0 : Shared.TypeIs (Shared.more s (bareSet w)) (.ref s.heap.objs.size) "set" := ⟨_, at0, rfl⟩
    have lk := F.called_set.init.lookup
    have bd := F.called_set.init.bind (.ref s.heap.objs.size)
    repeat (any_goals (first | assumption | wp_step))
    refine codeAny_mono (codeAny_call_builtin (R := wants (fun r2 s2 => r2 = .none ∧ SetsOf w s ns s2) E) F.called_set.init.plain F.entry_set_init (check_set_init_1 ty0 ?_)) fun r2 s2 hr2 => ?_
    · have hl1 : (s.heap.push (bareSet w)).IsList l items := hl.push _
      obtain ⟨ol, hol, hcl, nl, hdl⟩ := id hl1
      obtain ⟨ocls, odict, odata, oslots⟩ := ol
      simp only at hcl hdl
      subst hcl
      subst hdl
      have f1 := F.sub_list_set
      have f2 := F.sub_list_frozenset
      have f3 : (Value.type "list" == Value.type "dict") = false := by decide
      unfold Builtin.«set.__init__» noKeywords Builtin.Frozenset.updateFrom
      generalize hPI : pyIter = PI
      wp_walk
      subst hPI
      refine wpAny_pyIter_list hl1 ?_
      refine wpAny_bind (wpAny_runValue ?_)
      have hz : (s.heap.push (bareSet w)).objs.size = s.heap.objs.size + 1 := Heap.size_push ..
      have a1 : l ≠ (s.heap.push (bareSet w)).objs.size := by rw [hz]; exact Nat.ne_of_lt (Nat.lt_succ_of_lt hlt)
      have a2 : s.heap.objs.size ∉ [(s.heap.push (bareSet w)).objs.size, l] := fun z => by
        rw [hz] at z
        rcases List.mem_cons.mp z with z | z
        · exact Nat.ne_of_lt (Nat.lt_succ_self _) z
        · exact Nat.ne_of_gt hlt (List.mem_singleton.mp z)
      refine set_update_ints ((Walks.list (by simp [hh]) _ l a1 items).toS) s.heap.objs.size a2 ns sz hb (fun i v hv => ?val) (items.size - 0) 0 _ (by omega) (Nat.zero_le _) ⟨⟨_, Heap.get?_push_size _ rfl, rfl, rfl⟩, hl1.push _⟩ ?start ?fin
      case val =>
        have hi2 : i < ns.length := by
          rw [← sz]
          exact (Array.getElem?_eq_some_iff.mp hv).1
        obtain ⟨t, e⟩ := IntsAre.int_at hi i v (by rw [Array.getElem?_toList]; exact hv)
        refine ⟨ns[i], t, List.getElem?_eq_getElem hi2, ?_⟩
        rw [e, List.getD_eq_getElem?_getD, List.getElem?_eq_getElem hi2] <;> rfl
      case start =>
        exact ⟨0, Nat.le_refl 0, setR_new_at (Heap.get?_push_of_some _ at0)⟩
      case fin =>
        rintro ⟨h', g2, d', tk', os'⟩ c' mv hc' hS'
        have e1 : g2 = s.gens := mv.gens
        have e2 : d' = s.drawn := mv.drawn
        have e3 : os' = s.os := mv.os
        subst e1
        subst e2
        subst e3
        show wpAny _ _ _ _ _ _
        refine wpAny_pure ?_
        show wpAny _ _ (ret Value.none) _ _ _
        rw [sz] at hc'
        refine wpAny_pure ⟨rfl, h', tk', c', rfl, hS', hc', fun b o e => ?_⟩
        have hb0 := Heap.lt_size e
        refine mv.heap b o (fun z => ?_) (Heap.get?_push_of_some _ (Heap.get?_push_of_some _ e))
        rcases List.mem_cons.mp z with z | z
        · exact Nat.ne_of_lt hb0 z
        · have z := List.mem_singleton.mp z
          rw [hz] at z
          exact Nat.ne_of_lt (Nat.lt_succ_of_lt hb0) z
    · match r2, hr2 with
      | .error _, hr2 => exact hr2
      | .ok (.ret v2), hr2 =>
        obtain ⟨rfl, hs2⟩ := hr2
        repeat (any_goals (first | assumption | wp_step))
        exact h s2 hs2
      | .ok .next, hr2 => exact hr2.elim
      | .ok .brk, hr2 => exact hr2.elim
      | .ok .cont, hr2 => exact hr2.elim
end
end CH
end

section
set_option Elab.async false
set_option linter.all false
set_option maxRecDepth 100000
set_option maxHeartbeats 4000000
namespace CH
open PySem PySem.Spec PyProof.Rows L2
def tSortSet (K : PySem.W.Frag) (ta : TE) : TE := fun σ H Q => ta σ H fun x H1 => ∃ (l : Addr) (ns : List Int), x = .ref l ∧ SqL K H1 l (ns.map V.int) ∧ ns.length < 64 ∧ ∀ (out : List Int) (p : Addr), out.Pairwise (· < ·) → (∀ k : Int, k ∈ out ↔ k ∈ ns) → H1 p = none → Q (.ref p) (upd H1 p (.lst (out.map V.int)))
theorem pe_sortSet {X : Cx} {a : Expr} {ta : TE} {p p2 q pos : Pos} (hg : Gl X "sorted") (hm : X.mg "sorted" = none) (hbt : bootBuiltins "sorted" = some (.builtin "sorted")) (hg2 : Gl X "set") (hm2 : X.mg "set" = none) (ha : PE X a ta) (hc : X.calm = true := by rfl)
    (na : starEach [a] X.env = (false, eval a X.env) :: starEach [] X.env := by rfl) : PE X (.Call (.Name "sorted" p) [.Call (.Name "set" p2) [a] [] q] [] pos) (tSortSet X.K ta) := by
  refine ⟨fun pins s σ H Q I h => ?_⟩
  refine Call_ (ld_blt I hg hm hbt ?_)
  refine PyProof.Rows.callWith_builtin1 (PyProof.Rows.args_cons ?_ rfl) rfl rfl
  refine Call_ (ld_blt I hg2 hm2 boot_set ?_)
  refine PyProof.Rows.callWith_type1 (PyProof.Rows.args_cons (thn (ha.run pins s σ H _ I h) fun v s1 ⟨x, H1, I1, r1, q1⟩ => PyProof.Rows.args_nil ?_) na) na rfl
  obtain ⟨l, ns, rfl, hq, h64, q1⟩ := q1
  cases r1
  obtain ⟨its, r, pl, hz⟩ := I1.list hq
  refine call_setL ns (I1.ok.hd hc) pl.isList (by simpa using RZ.intsAre_vals r) (by unfold scanBound; omega) fun s2 hs2 => ?_
  obtain ⟨h', tk, n, rfl, R, hn, hk⟩ := hs2
  refine PyProof.Rows.args_nil ?_
  have I2 : Inv X pins σ H1 { s1 with heap := h', toks := tk } := I1.kept fun b o e => hk b o e
  have R2 : SetR X.w ({ s1 with heap := h', toks := tk } : Shared).heap s1.heap.objs.size (fun j => decide (j ∈ ns)) n := R
  generalize s1.heap.objs.size = ad at R2 ⊢
  generalize ({ s1 with heap := h', toks := tk } : Shared) = s2 at R2 I2 ⊢
  refine sorted_set R2 (I2.ok.hd hc) (by omega) fun s' p out c ms k g o hp hg hi hs hm hl => ?_
  have hlen : (ms.map V.int).length ≤ sizeLine := by rw [List.length_map, hl, sizeLine_eq]; omega
  have hnp : H1 p = none := I2.hok.fresh hp
  have J : Inv X pins σ (upd H1 p (.lst (ms.map V.int))) { s2 with heap := s'.heap, gens := s'.gens, drawn := s'.drawn, toks := s'.toks } :=
    I2.call (ch := []) (Un.laid k hp hnp) (I2.hok.laid k hp ⟨hlen, out.toList, c, vals_of_ints hi, hg⟩) (by rw [g]; exact I2.bare) (fun _ z => nomatch z)
  have e : s' = { s2 with heap := s'.heap, gens := s'.gens, drawn := s'.drawn, toks := s'.toks } := by
    cases s'
    cases s2
    cases o
    rfl
  rw [e]
  exact ⟨.ref p, _, J, rfl, q1 ms p hs (fun k => by rw [hm k]; exact decide_eq_true_iff) hnp⟩
end CH
end

section
set_option Elab.async false
set_option linter.all false
set_option maxRecDepth 100000
set_option maxHeartbeats 4000000
/-! a method called in a try -/
namespace CH
open PySem PySem.Spec PyProof.Rows L2
/-- o.m(..): what it raises is told by the locals -/
def tMeX (C : Addr) (m : Str) (sp : Sp) (E : L2.St → XK) (ta : TE) (t : TA) : TE := fun σ H Q =>
  ta σ H fun x H1 => ∃ a dx fs, x = .ref a ∧ H1 a = some (.ins C dx fs) ∧ fs.lookup m = none ∧ t σ H1 fun vs H2 => sp (x :: vs) H2 Q (E σ)
section
variable {X : Cx} {k j : Nat} {C : Addr} {m : Str} {sp : Sp} {pos apos : Pos} {e o : Expr} {es : List Expr} {ta : TE} {t : TA} {W : WX}
theorem pe_mtS {pl : Sem Bool} (c : MetX X.prog X.w X.K X.mg X.base k C m sp) (hr : Room j X.A) (hk : k ≤ j) (tk : L2N.Takes X W) (he : PE X o ta) (ha : PA X (e :: es) t)
    (hst : starEach (e :: es) X.env = (false, eval e X.env) :: starEach es X.env := by rfl) (hpl : (backTo pos (starEach es X.env)).any (·.1) = false := by rfl)
    (ht : eval (.Call (.Attribute o m apos) (e :: es) [] pos) X.env = (do
      let ov ← eval o X.env
      standAt apos.atName
      let fx ← holding [ov] (getMethod ov m pl)
      callWith pos fx.1 fx.2 (backTo pos (starEach (e :: es) X.env)) (backToKw pos (keywordEach [] X.env))) := by rfl) :
    PE X (.Call (.Attribute o m apos) (e :: es) [] pos) (tMeX C m sp (WE W) ta t) := by
  obtain ⟨f, fd, ps, cl, hm, F, b⟩ := c.ex
  constructor
  intro pins s σ H Q I h
  apply PySem.W.methodCall_KW (pl := pl) (thn (he.run pins s σ H _ I h) ?_) ht
  rintro u s1 ⟨x, H1, I1, rx, a, dx, fs, ex, ea, l, q⟩
  subst ex
  obtain rfl : u = Value.ref a := rx
  apply getmeth_ok I1 ea cl hm l
  apply PySem.W.callWith_K (first := [.ref a]) (h₀ := X.base) I.ok.mod.kin hm.kp (thn (ha.run pos pins s1 σ H1 _ I1 q) ?_) hst hpl
  rintro us s2 ⟨vs, H2, I2, r, q2⟩
  exact ⟨I2.kIn, run_fnS (us := .ref a :: us) (vs := .ref a :: vs) F (hr.mono hk) b (L2N.passAt tk σ) I2 (.cons rfl r) q2⟩
end
end CH
end

section
set_option Elab.async false
set_option linter.all false
set_option maxRecDepth 100000
set_option maxHeartbeats 4000000
/-! {k: v} with one tuple as key; a dict with tuples as keys against {} -/
namespace CH
open PySem PySem.Spec PyProof.Rows L2
/-- {k: v}: the new dict stands empty while the two are made -/
def tDispT (tk tv : TE) : TE := fun σ H Q => ∀ p, H p = none → tk σ (upd H p (.dT [])) fun x H1 => tv σ H1 fun y H2 => H2 p = some (.dT []) ∧ ∃ (b : Addr) (ks : List Key), x = .ref b ∧ H2 b = some (.tup (ks.map kV)) ∧ Q (.ref p) (upd H2 p (.dT [(ks, y)]))
section
variable {X : Cx} {pos : Pos} {k v : Expr} {tk tv : TE}
theorem pe_disp1T (hu : X.A.units + 1 < cLine) (hk : PE X k tk) (hv : PE X v tv) : PE X (.Dict [some k] [v] pos) (tDispT tk tv) := by
  constructor
  intro pins s σ H Q I q
  have hn := I.hok.fresh (Nat.le_refl s.heap.objs.size)
  have I1 := I.laid (a := s.heap.objs.size) (o := .dT []) (h' := s.heap.push { cls := .type "dict", data := .dict #[] }) (t' := s.toks) (fun _ _ z => Heap.get?_push_of_some _ z) (Nat.le_refl _) (dt_empty s.heap I.big)
  have trees := zip_pairTrees [some k] [v] X.env pos rfl rfl
  rw [arm_eval_Dict, trees, dictDisplay_pairs _ (by intro z; cases z) (by show 1 < 17; decide)]
  apply wpAny_bind
  apply wpAny_standAt
  apply wpAny_bind
  apply wpAny_subDictH (knd := tupleKind (mixKind X.prog X.w)) (show (tupleKind (mixKind X.prog X.w)).room X.A from by show _ < _; omega) (by show 1 ≤ 15; decide)
  apply thn ((pps_cons (pos := pos) hk hv pps_nil).run pins _ σ _ (fun ps H2 => match ps with
    | [(x, y)] => H2 s.heap.objs.size = some (.dT []) ∧ ∃ (b : Addr) (ks : List Key), x = .ref b ∧ H2 b = some (.tup (ks.map kV)) ∧ Q (.ref s.heap.objs.size) (upd H2 s.heap.objs.size (.dT [(ks, y)]))
    | _ => False) I1 (q _ hn))
  rintro ws s2 ⟨ps, H2, I2, rel, c⟩
  match ps, ws, rel, c with
  | [(x, y)], [(u1, u2)], rel, ⟨e, b, ks, ex, eb, q2⟩ =>
    obtain ⟨r1, r2⟩ : RelV x u1 ∧ RelV y u2 := by
      cases rel with
      | cons h _ => exact h
    subst ex
    obtain rfl : u1 = Value.ref b := r1
    obtain ⟨_, hd, xs, kt, dd⟩ := dt_of I2.hok e
    cases kt
    refine ⟨[(ks, b, u2)], ⟨rfl, rfl, key_of I2.hok eb, True.intro⟩, dd, fun h' tk dd' hs => wpAny_pure ?_⟩
    obtain ⟨o, es, ep, ho, x1, x2, x3, _, x5⟩ := dd'
    refine ⟨.ref s.heap.objs.size, _, ?_, rfl, q2⟩
    refine d_write I2 (by rw [e]; exact True.intro) hs ⟨o, ho⟩ ⟨by show 1 ≤ sizeLine; decide, hd, [(ks, b, u2)], .cons ⟨rfl, ?_, r2⟩ .nil, o, es, ep, ho, x1, x2, x3, x5⟩
    rw [upd_ne (ne_of eb e (fun z => nomatch z))]
    exact eb
end
/-- two dicts, the second one bare: alike just where the first one is -/
theorem same_bare {P : Program} {w : World} {A : Around} {E : Value → Shared → Prop} {s : Shared} {nm : String} {a b : Addr} {oa ob : Obj} {es : Array DictEntry} {ep ep' : Nat} {Q : Bool → Shared → Prop} (ha : (a == sysModules) = false) (hb : (b == sysModules) = false)
    (hoa : s.heap.get? a = some oa) (hda : oa.data = .dict es ep) (hob : s.heap.get? b = some ob) (hdb : ob.data = .dict #[] ep') (h : Q (decide (es.size = 0)) s) : wpAny (model P w) A (Builtin.Dict.samePairs nm a b) Q E s := by
  have na : ¬ (a == sysModules) = true := by rw [ha]; decide
  have nb : ¬ (b == sysModules) = true := by rw [hb]; decide
  unfold Builtin.Dict.samePairs Builtin.Dict.showsAll
  rw [if_neg na, if_neg nb]
  apply wpAny_bind
  apply wpAny_pure
  apply wpAny_bind
  apply wpAny_pure
  apply wpAny_bind
  apply wpAny_dictEntries hoa hda
  dsimp only
  apply wpAny_bind
  apply wpAny_dictEntries hob hdb
  by_cases z : es.size = 0
  · rw [decide_eq_true z] at h
    rw [if_neg (by rw [z]; decide), z]
    refine wpAny_bind (wpAny_dictEpoch hoa hda ?_)
    refine wpAny_bind ?_
    rw [Std.Legacy.Range.forIn_eq_forIn_range']
    simp only [Std.Legacy.Range.size, Nat.sub_zero, Nat.add_sub_cancel, Nat.div_one, List.range'_zero]
    rw [List.forIn_nil]
    refine wpAny_pure ?_
    exact wpAny_pure h
  · rw [decide_eq_false z] at h
    rw [if_pos (by
      show (!(es.size == 0)) = true
      rw [beq_eq_false_iff_ne.mpr z] <;> rfl)]
    apply wpAny_bind
    apply wpAny_rule
    exact wpAny_pure h
def rNeDT0 : R2 := fun x y H Q => ∃ (a b : Addr) (kvs : List (List Key × V)), x = .ref a ∧ y = .ref b ∧ H a = some (.dT kvs) ∧ H b = some (.dT []) ∧ Q (.bl (!decide (kvs = []))) H
theorem op_neDT0 {X : Cx} (hu : X.A.units < cLine) : OpR X (compareOp .NotEq) rNeDT0 := by
  intro pins s σ H x y v u Q I rx ry h
  obtain ⟨a, b, kvs, rfl, rfl, ea, eb, q⟩ := h
  obtain rfl : v = Value.ref a := rx
  obtain rfl : u = Value.ref b := ry
  obtain ⟨_, ya, va, ra, da⟩ := dt_of I.hok ea
  obtain ⟨_, yb, vb, rb, db⟩ := dt_of I.hok eb
  cases rb
  have la := Paired.length ra
  have hz : ∀ {es : Array DictEntry}, es.toList = va.map (entryOfKey (tupleKind (mixKind X.prog X.w))) → decide (es.size = 0) = decide (kvs = []) := fun e => by
    have l := congrArg List.length e
    rw [Array.length_toList, List.length_map, ← la] at l
    exact decide_eq_decide.mpr ⟨fun z => List.length_eq_zero_iff.mp (by omega), fun z => by rw [l, z]; rfl⟩
  have ta := da.typeIs
  have tb := db.typeIs
  obtain ⟨oa, es, ep, hoa, _, hda, hea, _⟩ := da
  obtain ⟨ob, es', ep', hob, _, hdb, heb, _⟩ := db
  obtain rfl : es' = #[] := by
    have l := congrArg List.length heb
    rw [Array.length_toList] at l
    exact Array.eq_empty_of_size_eq_zero l
  have fin : EP X pins σ Q (Value.bool (!decide (es.size = 0))) s := fin_bl I q (by rw [hz hea])
  refine wpAny_richCompare_same_room (op := .NotEq) ta tb PySem.F.slot_dict_ne (wpAny_call_entry PySem.F.slot_dict_ne ta PySem.F.entry_dict_ne ?_ (PySem.F.args_dict_ne_2 _ _)) hu
  show wpAny _ _ (Builtin.Dict.dictSlotArgs "__ne__" ⟨[.ref a, .ref b], []⟩ >>= _) _ _ s
  refine wpAny_bind ?_
  unfold Builtin.Dict.dictSlotArgs
  refine wpAny_bind (wpAny_notOrdered_dict ta ?_)
  show wpAny _ _ (pure (Value.ref a, Value.ref b)) _ _ s
  refine wpAny_pure (wpAny_bind (wpAny_isInstance (T := "dict") tb PySem.F.sub_dict_dict ?_))
  simp only [Bool.not_true, Bool.false_eq_true, if_false]
  refine wpAny_bind (wpAny_pure (wpAny_bind (wpAny_pure (wpAny_bind (same_bare ya yb hoa hda hob hdb ?_)))))
  refine wpAny_pure ⟨_, rfl, (fun x => nomatch x), ?_⟩
  rw [show (decide (es.size = 0) == false) = !decide (es.size = 0) from by cases decide (es.size = 0) <;> rfl]
  exact fin
end CH
end

section
set_option Elab.async false
set_option linter.all false
set_option maxRecDepth 100000
set_option maxHeartbeats 4000000
/-! dicts with tuples as keys walked; for over zip -/
namespace CH
open PySem PySem.Spec PyProof.Rows L2
/-- for k in d, d with tuples as keys, locked -/
theorem for_keysT {d : Addr} {od : Obj} {kvs : List (List Key × V)} {g : TG} {tb : TS} {D : Ends} {σ : L2.St} {H : Hp} (Pv : Nat → L2.St → Hp → Prop) (h0 : Pv 0 σ H) (hl : ∀ i σ H, Pv i σ H → H d = some (.frz od (.dT kvs)))
    (hs : ∀ (i : Nat) (k : List Key) (v : V) (q : Addr) (σ : L2.St) (H : Hp), kvs[i]? = some (k, v) → H q = some (.tup (k.map kV)) → Pv i σ H → g (.ref q) σ H fun σ2 H2 => tb { D with nx := Pv (i + 1), ct := Pv (i + 1), bk := D.nx } σ2 H2) (hd : ∀ σ H, Pv kvs.length σ H → D.nx σ H) :
    ∃ W : Nat → Nat → L2.St → Hp → Prop, (∃ m, W 0 m σ H) ∧ ∀ i m σ H, W i m σ H →
      ((Itkt d od kvs).stop i H ∧ D.nx σ H) ∨ ((Itkt d od kvs).go i H ∧ ∃ N : L2.St → Hp → Prop, (∀ σ' H', N σ' H' → ∃ m', m' < m ∧ W (i + 1) m' σ' H') ∧ ∀ v H', (Itkt d od kvs).yld i H v H' → g v σ H' fun σ2 H2 => tb { D with nx := N, ct := N, bk := D.nx } σ2 H2) := by
  refine ⟨fun i m σ H => m = kvs.length - i ∧ i ≤ kvs.length ∧ Pv i σ H, ⟨kvs.length, rfl, Nat.zero_le _, h0⟩, ?_⟩
  rintro i m σ H ⟨rfl, hi, p⟩
  have q := hl i σ H p
  by_cases hlt : i < kvs.length
  · refine .inr ⟨⟨q, hlt⟩, Pv (i + 1), fun σ' H' p' => ⟨kvs.length - (i + 1), by omega, rfl, hlt, p'⟩, fun v H' y => ?_⟩
    obtain ⟨eH, k, z, a, hk, rfl, ha⟩ := y
    rw [eH]
    exact hs i k z a σ H hk ha p
  · have e : i = kvs.length := by omega
    subst e
    exact .inl ⟨⟨q, Nat.le_refl _⟩, hd σ H p⟩
/-- [φ for k in d], d with tuples as keys, locked -/
theorem lc_keysTT {d : Addr} {od : Obj} {kvs : List (List Key × V)} {i : Nat} {te : TE} {vs : List Nat} {σ : L2.St} {H0 : Hp} {D : Addr} {Qd : Hp → Prop} (φ : List Key → V) (h4 : kvs.length ≤ 4000) (hfz : H0 d = some (.frz od (.dT kvs))) (nD : H0 D = none)
    (hw : ∀ x, wipe ((wipe σ vs).set i (some x)) vs = wipe σ vs)
    (hs : ∀ (k : List Key) (v : V) (q : Addr) (H3 : Hp), (k, v) ∈ kvs → H3 q = some (.tup (k.map kV)) → H3 d = some (.frz od (.dT kvs)) → ∀ Q : VK, Q (φ k) H3 → te ((wipe σ vs).set i (some (.ref q))) H3 Q)
    (hd : Qd (upd H0 D (.lst (kvs.map fun p => φ p.1)))) :
    ∃ W : Nat → Nat → Hp → Prop, (∃ m, W 0 m (upd H0 D (.lst []))) ∧ ∀ i1 m H, W i1 m H →
      ((Itkt d od kvs).stop i1 H ∧ Qd H) ∨ ((Itkt d od kvs).go i1 H ∧ ∃ Nx : Hp → Prop, (∀ H', Nx H' → ∃ m', m' < m ∧ W (i1 + 1) m' H') ∧ ∀ x H', (Itkt d od kvs).yld i1 H x H' → gName i x (wipe σ vs) H' fun σ2 H2 => wipe σ2 vs = wipe σ vs ∧ tYes σ2 H2 fun b H3 =>
        if b = true then te σ2 H3 fun y H4 => ∃ acc, H4 D = some (.lst acc) ∧ acc.length < sizeLine ∧ Nx (upd H4 D (.lst (acc ++ [y]))) else Nx H3) := by
  have nd : d ≠ D := fun z => by rw [z, nD] at hfz; cases hfz
  refine ⟨fun j m H => m = kvs.length - j ∧ j ≤ kvs.length ∧ H = upd H0 D (.lst ((kvs.take j).map fun p => φ p.1)), ⟨kvs.length, rfl, Nat.zero_le _, rfl⟩, ?_⟩
  rintro j m H ⟨rfl, hj, rfl⟩
  have hf2 : (upd H0 D (.lst ((kvs.take j).map fun p => φ p.1))) d = some (.frz od (.dT kvs)) := by rw [upd_ne nd]; exact hfz
  by_cases hlt : j < kvs.length
  · have hx : kvs[j]? = some kvs[j] := List.getElem?_eq_getElem hlt
    refine .inr ⟨⟨hf2, hlt⟩, fun H' => H' = upd H0 D (.lst ((kvs.take (j + 1)).map fun p => φ p.1)), fun H' p' => ⟨kvs.length - (j + 1), by omega, rfl, hlt, p'⟩, fun v H' y => ?_⟩
    obtain ⟨rfl, k, z, q, hk, rfl, hq⟩ := y
    refine ⟨hw _, yesT ?_⟩
    refine hs k z q _ (List.mem_of_getElem? hk) hq hf2 _ ⟨_, upd_same, ?_, ?_⟩
    · rw [List.length_map, List.length_take]
      exact lt80 (by omega)
    · have e1 : kvs.take (j + 1) = kvs.take j ++ [(k, z)] := by rw [List.take_add_one, hk] <;> rfl
      rw [e1, List.map_append, upd_upd] <;> rfl
  · have e : j = kvs.length := by omega
    subst e
    refine .inl ⟨⟨hf2, Nat.le_refl _⟩, ?_⟩
    rw [List.take_length]
    exact hd
/-- for x, y in zip(xs, ys) -/
theorem for_zipL {K : PySem.W.Frag} {a b : Addr} {xs ys : List V} {g : TG} {tb : TS} {D : Ends} {σ : L2.St} {H : Hp} (Pv : Nat → L2.St → Hp → Prop) (hll : xs.length = ys.length) (h0 : Pv 0 σ H) (hl : ∀ i σ H, Pv i σ H → SqL K H a xs ∧ SqL K H b ys)
    (hs : ∀ (i : Nat) (x y : V) (T : Addr) (σ : L2.St) (H : Hp), xs[i]? = some x → ys[i]? = some y → Pv i σ H → H T = none → g (.ref T) σ (upd H T (.tup [x, y])) fun σ2 H2 => tb { D with nx := Pv (i + 1), ct := Pv (i + 1), bk := D.nx } σ2 H2) (hd : ∀ σ H, Pv xs.length σ H → D.nx σ H) :
    ∃ W : Nat → Nat → L2.St → Hp → Prop, (∃ m, W 0 m σ H) ∧ ∀ i m σ H, W i m σ H →
      ((Itz K a b).stop i H ∧ D.nx σ H) ∨ ((Itz K a b).go i H ∧ ∃ N : L2.St → Hp → Prop, (∀ σ' H', N σ' H' → ∃ m', m' < m ∧ W (i + 1) m' σ' H') ∧ ∀ v H', (Itz K a b).yld i H v H' → g v σ H' fun σ2 H2 => tb { D with nx := N, ct := N, bk := D.nx } σ2 H2) := by
  refine ⟨fun i m σ H => m = xs.length - i ∧ i ≤ xs.length ∧ Pv i σ H, ⟨xs.length, rfl, Nat.zero_le _, h0⟩, ?_⟩
  rintro i m σ H ⟨rfl, hi, p⟩
  obtain ⟨qx, qy⟩ := hl i σ H p
  by_cases hlt : i < xs.length
  · have hx : xs[i]? = some xs[i] := List.getElem?_eq_getElem hlt
    have hlt2 : i < ys.length := by omega
    have hy : ys[i]? = some ys[i] := List.getElem?_eq_getElem hlt2
    refine .inr ⟨⟨xs, ys, _, _, qx, qy, hx, hy⟩, Pv (i + 1), fun σ' H' p' => ⟨xs.length - (i + 1), by omega, rfl, hlt, p'⟩, fun v H' y => ?_⟩
    obtain ⟨T, x', y', rfl, hT, rfl, f1, f2⟩ := y
    exact hs i x' y' T σ H (f1 xs qx) (f2 ys qy) p hT
  · have e : i = xs.length := by omega
    subst e
    exact .inl ⟨⟨xs, ys, qx, qy, Or.inl (Nat.le_refl _)⟩, hd σ H p⟩
theorem len_put {κ : Type} [DecidableEq κ] (kvs : List (κ × V)) (k : κ) (v : V) : (putK kvs k v).length ≤ kvs.length + 1 := by
  unfold putK
  split
  · rw [List.length_map]
    omega
  · rw [List.length_append]
    exact Nat.le_refl _
end CH
end

section
set_option Elab.async false
set_option linter.all false
set_option maxRecDepth 100000
set_option maxHeartbeats 4000000
/-! calls where an error is handled -/
namespace CH
open PySem PySem.Spec PyProof.Rows L2
open L2H (FnH HotC RoomH Hot1 cxH fn_ofH run_fnH roomH_of)
theorem hot_of {X : Cx} {a : Addr} {oe : Obj} {cls : Value} {d : Option Addr} {pn : List (Addr × Obj)} (hz : L2N.Zn cls d oe) (hf : ∃ vs, oe.data = .fields vs) : HotC (X.suite a ((a, oe) :: pn)) := by
  obtain ⟨vs, e⟩ := hf
  exact ⟨(a, oe), ⟨rfl, vs, e, hz.2.2 vs e⟩, List.mem_cons_self⟩
theorem roomS {k : Nat} {X : Cx} {a : Addr} {pn : List (Addr × Obj)} (hr : Room k X.A) : RoomH k (X.suite a pn).A := ⟨hr.dp, hr.un⟩
section
variable {P : Program} {w : World} {K : PySem.W.Frag} {mg : Str → Option Value} {base : Heap}
/-- a method that may be called there, and raises nothing -/
structure MetH (P : Program) (w : World) (K : PySem.W.Frag) (mg : Str → Option Value) (base : Heap) (k : Nat) (C : Addr) (m : Str) (sp : Sp) : Prop where
  ex : ∃ (f : Addr) (fd : FuncData) (ps : List Str), Cls K C ∧ Meth K C m f ∧ FnH P w K mg base CX0 k f fd ps sp ∧ Binds K fd ps []
abbrev BodiesH (CX : CXT) (P : Program) (w : World) (K : PySem.W.Frag) (mg : Str → Option Value) (base : Heap) (N : List Str) (qual : Str) (st : Stmt) (c : Addr) (k : Nat) (sp : Sp) : Prop :=
  ∀ (f : Addr) (A : Around) (outer : List Env) (s : Shared) (H : Hp) (vs : List V) (Q : VK) (E : XK) (p : Addr × Obj), Hot1 A p → RoomH k (A.deeper (envOfC qual (defScope st) s.heap.objs.size f (.ref c))) → sp vs H Q E →
      ∃ t, PSs (cxH CX P w K mg base N qual (defScope st) f (.ref c) A outer s H E p) (defBody st) t ∧ t { nx := fun _ H' => Q .non H', rt := Q } (start N vs) H
theorem metH_of {C : Addr} {m qual : Str} {st : Stmt} {c : Addr} {N ps : List Str} {k : Nat} {sp : Sp} (D : MetT K C m qual st c) (S : FnScope N ps (defScope st)) (hb : BindF ps m qual st)
    (len : ∀ vs H Q E, sp vs H Q E → vs.length = ps.length) (hbody : BodiesH CX0 P w K mg base N qual st c k sp) : MetH P w K mg base (k + 1) C m sp := by
  obtain ⟨f, fd, F, hm, cl, hc⟩ := D.ex
  have b := FunD.bindsN F hb
  obtain ⟨oc, od, dV, kV, doc, pm, an, cdv, ct, osl, rfl, lk, hcd, _, _⟩ := F.ex
  obtain rfl : cdv = .ref c := hc _ _ _ _ lk
  exact ⟨f, _, ps, cl, hm, fn_ofH lk hcd S len fun A outer s H vs Q E p hot hr h => hbody f A outer s H vs Q E p hot hr h, b⟩
end
/-- a loop over range(n), its body as it stands -/
theorem tfor_range {n : Nat} {g : TG} {tb : TS} {D : Ends} {σ : L2.St} {H : Hp} (hn : n ≤ 100000) (Pv : Nat → L2.St → Hp → Prop) (h0 : Pv 0 σ H)
    (hs : ∀ i σ H, i < n → Pv i σ H → g (.int (0 + (i : Int))) σ H fun σ2 H2 => tb { D with nx := Pv (i + 1), ct := Pv (i + 1), bk := D.nx } σ2 H2) (hd : ∀ σ H, Pv n σ H → D.nx σ H) : tFor (iRng1 (tCons (tC (.int (n : Int))) tNil)) g tb D σ H := by
  have e : (2 : Int) ^ 62 = 4611686018427387904 := by decide
  exact ⟨(n : Int), rfl, by rw [e]; omega, by rw [e]; omega, for_range (lo := 0) (n := n) (tb := tb) Pv h0 hs hd⟩
section
variable {X : Cx} {k j : Nat} {C : Addr} {m : Str} {sp : Sp} {pos apos : Pos} {o : Expr} {ta : TE}
/-- o.m() there -/
theorem pe_mtH0 {pl : Sem Bool} (c : MetH X.prog X.w X.K X.mg X.base k C m sp) (hr : RoomH j X.A) (hk : k ≤ j) (hot : HotC X) (he : PE X o ta)
    (ht : eval (.Call (.Attribute o m apos) [] [] pos) X.env = (do
      let ov ← eval o X.env
      standAt apos.atName
      let fx ← holding [ov] (getMethod ov m pl)
      callWith pos fx.1 fx.2 (backTo pos (starEach [] X.env)) (backToKw pos (keywordEach [] X.env))) := by rfl) :
    PE X (.Call (.Attribute o m apos) [] [] pos) (tMeth C m sp [] C8.E0 ta tNil) := by
  obtain ⟨f, fd, ps, cl, hm, F, b⟩ := c.ex
  constructor
  intro pins s σ H Q I h
  apply PySem.W.methodCall_KW (pl := pl) (thn (he.run pins s σ H _ I h) ?_) ht
  rintro u s1 ⟨x, H1, I1, rx, a, dx, fs, ex, ea, l, q⟩
  subst ex
  obtain rfl : u = Value.ref a := rx
  apply getmeth_ok I1 ea cl hm l
  apply PySem.W.callWith_K0 (first := [.ref a]) I1.kIn hm.kp
  exact run_fnH (E := fun _ => C8.E0) (us := [.ref a]) (vs := [.ref a]) F (hr.mono hk) hot b (fun _ _ _ _ _ _ z => False.elim z) I1 (.cons rfl .nil) q
end
end CH
end

section
set_option Elab.async false
set_option linter.all false
set_option maxRecDepth 100000
set_option maxHeartbeats 4000000
/-! lambdas handed on: made, called where they are handed to, what they captured lent -/
namespace CH
open PySem PySem.Spec PyProof.Rows L2
open LamX (CodeO)
open NdefX (NF NScope CellsAt startF ncx inv_startN slotAt)
/-! ### tables of code objects, laid over the rest -/
/-- Hm, with these tables -/
def ov (Hm : Hp) (T : List (Addr × Array Value)) : Hp := fun b => match T.lookup b with
  | some ps => some (.tbl ps)
  | none => Hm b
structure OvOk (Hm : Hp) (T : List (Addr × Array Value)) : Prop where
  no : ∀ b ps, T.lookup b = some ps → Hm b = none
theorem ov_in {Hm : Hp} {T : List (Addr × Array Value)} {b : Addr} {ps : Array Value} (h : T.lookup b = some ps) : ov Hm T b = some (.tbl ps) := by
  unfold ov
  rw [h]
theorem ov_out {Hm : Hp} {T : List (Addr × Array Value)} {b : Addr} (h : T.lookup b = none) : ov Hm T b = Hm b := by
  unfold ov
  rw [h]
theorem ov_of {Hm : Hp} {T : List (Addr × Array Value)} (o : OvOk Hm T) {b : Addr} {u : HO} (h : Hm b = some u) : ov Hm T b = some u ∧ T.lookup b = none := by
  cases e : T.lookup b with
  | none => exact ⟨(ov_out e).trans h, rfl⟩
  | some ps =>
    rw [o.no b ps e] at h
    cases h
theorem ov_to {Hm : Hp} {T : List (Addr × Array Value)} {b : Addr} {u : HO} (h : ov Hm T b = some u) : (∃ ps, T.lookup b = some ps ∧ u = .tbl ps) ∨ (T.lookup b = none ∧ Hm b = some u) := by
  cases e : T.lookup b with
  | none =>
    rw [ov_out e] at h
    exact .inr ⟨rfl, h⟩
  | some ps =>
    rw [ov_in e] at h
    exact .inl ⟨ps, rfl, (Option.some.inj h).symm⟩
theorem ov_none {Hm : Hp} {T : List (Addr × Array Value)} {b : Addr} (h : ov Hm T b = none) : Hm b = none ∧ T.lookup b = none := by
  cases e : T.lookup b with
  | none =>
    rw [ov_out e] at h
    exact ⟨h, rfl⟩
  | some ps =>
    rw [ov_in e] at h
    cases h
theorem ov_hok {P : Program} {w : World} {Hm : Hp} {T : List (Addr × Array Value)} {h : Heap} (o : OvOk Hm T) (k : HOk P w (ov Hm T) h) : HOk P w Hm h := fun b u e => by
  refine ObjOk.stay (k b u (ov_of o e).1) (fun c v _ q => q) (fun c q => ?_) fun c xs q => ?_
  · rcases ov_to q with ⟨ps, _, z⟩ | ⟨_, z⟩
    · cases z
    · exact z
  · rcases ov_to q with ⟨ps, _, z⟩ | ⟨_, z⟩
    · cases z
    · exact z
/-! ### what is lent to a call -/
def Ext (B B' : Heap) : Prop := ∀ b o, B.get? b = some o → B'.get? b = some o
/-- the cells of the running def stand in B as its slots say -/
def Lent (X : Cx) (σ : L2.St) (B : Heap) : Prop := ∀ (j : Nat) (y : Str) (v : V), X.N[j]? = some y → X.env.scope.names.lookup y = some .cell → σ[j]? = some (some v) → ∃ c u o, X.env.cells.lookup y = some c ∧ RelV v u ∧ B.get? c = some o ∧ o.data = .cell (some u)
theorem modExt {K : PySem.W.Frag} {mg : Str → Option Value} {B B' : Heap} (m : Mod K mg B) (e : Ext B B') : Mod K mg B' := by
  obtain ⟨mb, h1, h2⟩ := m.blt
  exact ⟨m.kin.keeps e, m.glob.keeps e, ⟨mb, h1.keeps e, h2⟩, m.nolimit.keeps e⟩
open Classical in
theorem lend {X : Cx} {pins : List (Addr × Obj)} {σ : L2.St} {Hm : Hp} {s : Shared} {T : List (Addr × Array Value)} (I : Inv X pins σ (ov Hm T) s) (hfn : ∀ y, X.fn y = true) (hs : X.stack = X.env :: X.outer) (hf : X.env.frame = some X.env.locals) (o : OvOk Hm T) :
    ∃ B, Ext X.base B ∧ Lent X σ B ∧ Env0 X.prog X.w X.K X.mg B X.A X.stack s Hm ∧
      ∀ (Q : VK) (u : Value) (s' : Shared), CE X.stack X.prog X.w Hm s Q u s' → CE X.stack X.prog X.w (ov Hm T) s (fun v H' => ∃ Hm', H' = ov Hm' T ∧ OvOk Hm' T ∧ Q v Hm') u s' := by
  let p : Addr → Bool := fun b => (X.base.get? b).isSome || decide (∃ y, X.env.cells.lookup y = some b)
  let hid : List Addr := (List.range s.heap.objs.size).filter fun b => !p b
  have up : ∀ b u, p b = true → s.heap.get? b = some u → (PySem.W.hideAll s.heap hid).get? b = some u := fun b u hp e => PySem.W.hideAll_get hid e fun z => by
    have := (List.mem_filter.mp z).2
    rw [hp] at this
    cases this
  have dn : ∀ b u, (PySem.W.hideAll s.heap hid).get? b = some u → s.heap.get? b = some u ∧ p b = true := fun b u e => by
    have e2 := PySem.W.of_hideAll hid e
    refine ⟨e2, ?_⟩
    cases hp : p b with
    | true => rfl
    | false =>
      have m : b ∈ hid := List.mem_filter.mpr ⟨List.mem_range.mpr (Heap.lt_size e2), by rw [hp]; rfl⟩
      rw [PySem.W.hideAll_none hid m] at e
      cases e
  have ext : Ext X.base (PySem.W.hideAll s.heap hid) := fun b u e => up b u (by show ((X.base.get? b).isSome || _) = true; rw [e]; rfl) (I.bs b u e).1
  have cellF : ∀ y c, X.env.cells.lookup y = some c → c ∉ frs X.stack := fun y c e z => by
    obtain ⟨v, oc, hoc, hdc⟩ := I.cell y c e
    rw [hs] at z
    rcases List.mem_filterMap.mp z with ⟨en, hen, hfe⟩
    rcases List.mem_cons.mp hen with rfl | hen
    · rw [hf] at hfe
      obtain ⟨m, ⟨od, es, ep, h1, h2⟩, _⟩ := id I.loc
      have hl : X.env.locals = c := Option.some.inj hfe
      rw [hl, hoc] at h1
      have h1 := Option.some.inj h1
      subst h1
      have := h2.1
      rw [hdc] at this
      cases this
    · have hc := I.ok.cab y c (hfn y) e
      obtain ⟨_, ob, hob, _⟩ := I.ok.funs.mem (b := c) (List.mem_filterMap.mpr ⟨en, hen, hfe⟩)
      exact Nat.lt_irrefl _ (Nat.lt_of_lt_of_le (Heap.lt_size hob) hc)
  have noF : ∀ L ∈ frs X.stack, (PySem.W.hideAll s.heap hid).get? L = none := fun L hL => by
    cases e : (PySem.W.hideAll s.heap hid).get? L with
    | none => rfl
    | some u =>
      obtain ⟨e2, hp⟩ := dn L u e
      rcases Bool.or_eq_true _ _ ▸ hp with z | z
      · obtain ⟨q, _⟩ := I.stack.mem hL
        rw [q] at z
        cases z
      · obtain ⟨y, hy⟩ := of_decide_eq_true z
        exact absurd hL (cellF y L hy)
  have tabF : ∀ b ps, T.lookup b = some ps → s.heap.get? b = some { cls := .none, data := .fields ps } ∧ b ∉ frs X.stack := fun b ps e => by
    have h1 : s.heap.get? b = some { cls := .none, data := .fields ps } := I.hok b _ (ov_in e)
    refine ⟨h1, fun z => ?_⟩
    obtain ⟨_, ob, hob, nf⟩ := I.stack.mem z
    rw [h1] at hob
    exact nf ps (by rw [← Option.some.inj hob])
  refine ⟨PySem.W.hideAll s.heap hid, ext, fun j y v hj hy hv => ?_, ⟨I.ok.frames, modExt I.ok.mod ext, fun b u e => ?_, Nat.le_of_eq (PySem.W.hideAll_size hid s.heap), funFrames_none I.stack noF, fun b hb => (ov_none (I.stkFree b hb)).1, ov_hok o I.hok, I.bare⟩, fun Q u s' h => ?_⟩
  · obtain ⟨m, _, hl⟩ := I.loc
    obtain ⟨u, r, l⟩ := hl j y v hj hv (.inr (.inl hy))
    rcases l with ⟨z, _⟩ | ⟨_, c, hc, oc, hoc, hdc⟩
    · have z : X.env.scope.names.lookup y = some .local := z
      rw [hy] at z
      cases z
    · exact ⟨c, u, oc, hc, r, up c oc (by show (_ || decide (∃ y, X.env.cells.lookup y = some c)) = true; rw [decide_eq_true ⟨y, hc⟩, Bool.or_true]) hoc, hdc⟩
  · obtain ⟨e2, hp⟩ := dn b u e
    refine ⟨e2, ?_⟩
    rcases Bool.or_eq_true _ _ ▸ hp with z | z
    · obtain ⟨ob, hob⟩ := Option.isSome_iff_exists.mp z
      exact (ov_none (I.bs b ob hob).2).1
    · obtain ⟨y, hy⟩ := of_decide_eq_true z
      exact (ov_none (I.freeC y b hy)).1
  · obtain ⟨v, H', os, bare, un, hok, rv, q⟩ := h
    have nT : OvOk H' T := ⟨fun b ps e => un.free b _ (tabF b ps e).1 (o.no b ps e) (by simp)⟩
    have tab' : ∀ b ps, T.lookup b = some ps → s'.heap.get? b = some { cls := .none, data := .fields ps } := fun b ps e => un.keep b _ (tabF b ps e).1 (o.no b ps e) (tabF b ps e).2 (by simp)
    refine ⟨v, ov H' T, os, bare, ⟨fun b ob e n => un.keep b ob e (ov_none n).1, fun b ob e n => un.slot b ob e (ov_none n).1, fun b ob e n x => ?_, un.there, fun b xs e => ?_, fun b ob x e => ?_, fun b ps e => ?_⟩, fun b u e => ?_, rv, H', rfl, nT, q⟩
    · obtain ⟨n1, n2⟩ := ov_none n
      rw [ov_out n2]
      exact un.free b ob e n1 x
    · rcases ov_to e with ⟨_, _, z⟩ | ⟨n, z⟩
      · cases z
      · rw [ov_out n]
        exact un.tups b xs z
    · rcases ov_to e with ⟨_, _, z⟩ | ⟨n, z⟩
      · cases z
      · rw [ov_out n]
        exact un.frzs b ob x z
    · rcases ov_to e with ⟨qs, n, z⟩ | ⟨n, z⟩
      · cases z
        exact ⟨#[], by rw [ov_in n]; simp⟩
      · rw [ov_out n]
        exact un.tbls b ps z
    · rcases ov_to e with ⟨qs, n, rfl⟩ | ⟨n, z⟩
      · exact tab' b qs n
      · exact ObjOk.stay (hok b u z) (fun c v _ q => q) (fun c q => (ov_of nT q).1) fun c xs q => (ov_of nT q).1
end CH
end

section
set_option Elab.async false
set_option linter.all false
set_option maxRecDepth 100000
set_option maxHeartbeats 4000000
/-! lambdas: their objects, their calls -/
namespace CH
open PySem PySem.Spec PyProof.Rows L2
open LamX (CodeO)
open NdefX (NF NScope CellsAt startF ncx inv_startN slotAt)
/-- a lambda: its words, what it captured, its code object -/
structure LF where
  qual : Str
  params : Arguments
  body : Expr
  scope : Scope
  cl : List (Str × Addr)
  c : Addr
abbrev LF.fd (F : LF) (pm ctv : Value) : FuncData := PySem.W.kla_fn "<lambda>" F.qual F.params F.body F.scope F.cl pm (.ref F.c) ctv
abbrev LF.nf (F : LF) : NF := ⟨"<lambda>", F.qual, F.params, [], F.scope, F.cl, F.c⟩
def LamO (f : Addr) (F : LF) : HO := .ext fun h => ∃ (od : Option Addr) (sl : Array (Option Value)) (pm ctv : Value), h.get? f = some (⟨.type "function", od, .func (F.fd pm ctv), sl⟩ : Obj)
theorem lamO_ne {f : Addr} {F : LF} (ps : Array Value) : LamO f F ≠ .tbl ps := fun z => by
  unfold LamO at z
  cases z
theorem lamO_at {P : Program} {w : World} {H : Hp} {h : Heap} {f : Addr} {F : LF} (k : HOk P w H h) (e : H f = some (LamO f F)) : ∃ (od : Option Addr) (sl : Array (Option Value)) (pm ctv : Value), h.get? f = some (⟨.type "function", od, .func (F.fd pm ctv), sl⟩ : Obj) := (k f _ e).1
/-- what a lambda does where it is called: its names' cells stand in the base -/
structure ActOk (P : Program) (w : World) (K : PySem.W.Frag) (mg : Str → Option Value) (base : Heap) (k : Nat) (F : LF) (sp : Sp) : Prop where
  run : ∀ (f : Addr) (A : Around) (outer : List Env) (s : Shared) (H : Hp) (us : List Value) (vs : List V) (Q : VK) (E : XK), Room k A → Env0 P w K mg base A outer s H → H f = some (LamO f F) → H F.c = some (CodeO F.c F.qual) → Vals vs us → sp vs H Q E →
    codeAny (model P w) A (.call (.ref f) ⟨us, []⟩) (CR (L2N.CX P w) outer P w H s Q E) s
section
variable {P : Program} {w : World} {K : PySem.W.Frag} {mg : Str → Option Value} {base : Heap} {k : Nat} {F : LF} {sp : Sp} {N ps fr : List Str} {ws : List (Option V)}
theorem ActOk.weak {sp' : Sp} (a : ActOk P w K mg base k F sp) (h : ∀ vs H Q E, sp' vs H Q E → sp vs H Q E) : ActOk P w K mg base k F sp' := ⟨fun f A outer s H us vs Q E hr e0 hf hc r q => a.run f A outer s H us vs Q E hr e0 hf hc r (h _ _ _ _ q)⟩
theorem act_of (S : NScope N ps fr F.scope) (hb : ∀ (pm ctv : Value) (us : List Value), us.length = ps.length → bindArgs (F.fd pm ctv) ⟨us, []⟩ = pure (ps.zip us)) (len : ∀ vs H Q E, sp vs H Q E → vs.length = ps.length)
    (cells : ∀ (A : Around) (outer : List Env) (s : Shared) (H : Hp), Env0 P w K mg base A outer s H → CellsAt F.cl fr ws s.heap H)
    (body : ∀ (f : Addr) (A : Around) (outer : List Env) (s : Shared) (H : Hp) (vs : List V) (Q : VK) (E : XK), Room k (A.deeper (NdefX.envF F.nf f s.heap.objs.size)) → sp vs H Q E → ∃ tb, PE (ncx (L2N.CX P w) P w K mg base N F.nf f A outer s H E) F.body tb ∧ tb (startF N vs ws) H Q) : ActOk P w K mg base (k + 1) F sp := by
  constructor
  intro f A outer s H us vs Q E hr e0 hf hcd rv q
  have lv := len _ _ _ _ q
  have lu : us.length = ps.length := rv.length.symm.trans lv
  obtain ⟨od, sl, pm, ctv, hob⟩ := lamO_at e0.hok hf
  have noLim : s.heap.NoLimit := e0.mod.nolimit.keeps fun b u e => (e0.bs b u e).1
  apply PySem.W.kla_callFunE hr.depth hob rfl S.co S.gen rfl (NdefX.codeO_at e0.hok hcd)
  rw [hb pm ctv us lu]
  apply wpAny_pure
  apply wpAny_newFunctionEnv S.nocell (fun y hy => S.par y.1 (List.of_mem_zip (show (y.1, y.2) ∈ ps.zip us from hy)).1) _ S.kind
  intro h1 ns1 same
  refine And.intro (noLim.fresh _ same) ?_
  have stay : ∀ b u, s.heap.get? b = some u → h1.get? b = some u := fun b u e => same.extBut b u (fun z => by
    subst z
    exact absurd (Heap.lt_size e) (Nat.lt_irrefl _)) (Heap.get?_push_of_some _ e)
  obtain ⟨tb, hp, hq⟩ := body f A outer s H vs Q E (hr.deeper _) q
  have J := inv_startN (F := F.nf) (ws := ws) (fr := fr) (CX := L2N.CX P w) (f := f) (E := E) (tk := s.toks + (ps.zip us).length) S hr.hd e0 lv rv (cells A outer s H e0) ns1 stay
  show codeAny _ _ (.expr F.body (NdefX.envF F.nf f s.heap.objs.size)) _ _
  apply PySem.W.kla_codeExpr
  refine wpAny_mono (hp.run [] _ _ H Q J hq) (fun u s2 r2 => ?_) (fun e2 s2 r2 => r2)
  obtain ⟨v, H2, J2, rv2, q2⟩ := r2
  exact ⟨v, H2, J2.os, J2.bare, J2.base, J2.hok, rv2, q2⟩
end
/-- x(..), a name that holds a lambda -/
def tCallF (P : Program) (w : World) (K : PySem.W.Frag) (mg : Str → Option Value) (base : Heap) (k i : Nat) (E : L2.St → XK) (t : TA) : TE := fun σ H Q => ∃ (f : Addr) (F : LF) (sp : Sp), σ[i]? = some (some (.ref f)) ∧ ActOk P w K mg base k F sp ∧ H f = some (LamO f F) ∧
  t σ H fun vs H1 => H1 f = some (LamO f F) ∧ H1 F.c = some (CodeO F.c F.qual) ∧ sp vs H1 Q (E σ)
section
variable {X : Cx} {k j i : Nat} {x : Str} {p pos : Pos} {e : Expr} {es : List Expr} {t : TA} {W : WX}
theorem pe_callF {P : Program} {w : World} {K : PySem.W.Frag} {mg : Str → Option Value} {base : Heap} (eP : X.prog = P) (ew : X.w = w) (eK : X.K = K) (em : X.mg = mg) (eb : X.base = base) (hr : Room j X.A) (hk : k ≤ j) (tk : L2N.Takes X W) (hN : X.N[i]? = some x) (hv : Vis X.env.scope x) (ha : PA X (e :: es) t)
    (hdb : (x == ("__debug__" : Str)) = false := by decide) (hcd : (x == ("__classdict__" : Str)) = false := by decide)
    (he : starEach (e :: es) X.env = (false, eval e X.env) :: starEach es X.env := by rfl) (hpl : (backTo pos (starEach es X.env)).any (·.1) = false := by rfl) :
    PE X (.Call (.Name x p) (e :: es) [] pos) (tCallF P w K mg base k i (WE W) t) := by
  subst eP ew eK em eb
  constructor
  rintro pins s σ H Q I ⟨f, F, sp, hs, act, hf, q⟩
  apply wpAny_Call_Name_kw
  refine thn ((pe_var (pos := p) hN hv hdb hcd).run pins s σ H (fun v H1 => v = .ref f ∧ H1 = H) I ⟨.ref f, hs, rfl, rfl⟩) ?_
  rintro u s1 ⟨v, H1, I1, rv, rfl, rfl⟩
  obtain rfl : u = Value.ref f := rv
  have fa : ∀ {s2 : Shared} {H2 : Hp}, Inv X pins σ H2 s2 → H2 f = some (LamO f F) → PySem.W.FnAt f s2.heap := fun I2 h2 => by
    obtain ⟨od, sl, pm, ctv, ho⟩ := lamO_at I2.hok h2
    exact ⟨_, od, _, sl, ho⟩
  apply PySem.W.callWith_F (first := []) (fa I1 hf) (thn (ha.run pos pins s1 σ H1 _ I1 q) ?_) he hpl
  rintro us s2 ⟨vs, H2, I2, rs, h1, h2, q2⟩
  refine ⟨fa I2 h1, ?_⟩
  show wpAny _ _ (call (.ref f) us) _ _ _
  refine wpAny_call (codeAny_mono (act.run f X.A X.stack s2 H2 us vs Q _ (hr.mono hk) I2.env0 h1 h2 rs q2) fun r s3 h3 => ?_)
  cases r with
  | error e1 => exact L2N.passAt tk σ pins H2 s2 e1 s3 I2 h3
  | ok fl =>
    cases fl with
    | ret u1 => exact I2.after h3
    | next => exact h3.elim
    | brk => exact h3.elim
    | cont => exact h3.elim
end
/-! ### a lambda made -/
def TabL (H : Hp) (ps : Array Value) (q : Str) : Prop := TriplesOk ps.toList ∧ ∀ (pos : Pos) (cv : Value), codeAmong pos ps.toList = some cv → ∃ c, cv = .ref c ∧ H c = some (CodeO c q)
theorem TabL.nil {H : Hp} {q : Str} : TabL H #[] q := ⟨True.intro, fun pos cv h => by
  have z : codeAmong pos [] = some cv := h
  simp [codeAmong] at z⟩
theorem TabL.k {H H' : Hp} {ps : Array Value} {q : Str} (k : Kx H H') (t : TabL H ps q) : TabL H' ps q := ⟨t.1, fun pos cv h => by
  obtain ⟨c, e1, e2⟩ := t.2 pos cv h
  exact ⟨c, e1, k.o c _ e2 LamX.codeO_ne⟩⟩
theorem look1 {α : Type} {P b : Addr} {v : α} (n : b ≠ P) : [(P, v)].lookup b = none := by
  rw [List.lookup_cons]
  have e : (b == P) = false := by simpa using n
  rw [e] <;> rfl
theorem look1s {α : Type} {P : Addr} {v : α} : [(P, v)].lookup P = some v := by
  rw [List.lookup_cons]
  simp
theorem look1of {α : Type} {P b : Addr} {v w : α} (h : [(P, v)].lookup b = some w) : b = P ∧ w = v := by
  by_cases n : b = P
  · subst n
    rw [look1s] at h
    exact ⟨rfl, (Option.some.inj h).symm⟩
  · rw [look1 n] at h
    cases h
theorem ovOk1 {Hm : Hp} {P : Addr} {ps : Array Value} (h : Hm P = none) : OvOk Hm [(P, ps)] := ⟨fun b qs e => by rw [(look1of e).1]; exact h⟩
theorem OvOk.at1 {Hm : Hp} {P : Addr} {ps : Array Value} (o : OvOk Hm [(P, ps)]) : Hm P = none := o.no P ps look1s
theorem ov1_upd {Hm : Hp} {P b : Addr} {ps : Array Value} {u : HO} (n : b ≠ P) : upd (ov Hm [(P, ps)]) b u = ov (upd Hm b u) [(P, ps)] := by
  funext a
  by_cases h : a = b
  · rw [h, upd_same, ov_out (look1 n), upd_same]
  · rw [upd_ne h]
    unfold ov
    rw [upd_ne h]
theorem ov1_tbl {Hm : Hp} {P : Addr} {ps qs : Array Value} : upd (ov Hm [(P, ps)]) P (.tbl qs) = ov Hm [(P, qs)] := by
  funext a
  by_cases h : a = P
  · rw [h, upd_same, ov_in look1s]
  · rw [upd_ne h, ov_out (look1 h), ov_out (look1 h)]
/-- lambda x: .. -/
def tLamM (P : Addr) (q : Str) (mk : Addr → LF) : TE := fun σ H Q => ∃ (Hm : Hp) (ps : Array Value), H = ov Hm [(P, ps)] ∧ Hm P = none ∧ TabL Hm ps q ∧
  ∀ (f c' : Addr) (Hm' : Hp) (ps' : Array Value), Kx Hm Hm' → Hm' P = none → TabL Hm' ps' q → Hm f = none → Hm' f = some (LamO f (mk c')) → Hm' c' = some (CodeO c' q) → Q (.ref f) (ov Hm' [(P, ps')])
section
variable {X : Cx} {c P : Addr} {params : Arguments} {body : Expr} {scope : Scope} {pos : Pos} {q : Str}
theorem lam_known {pins : List (Addr × Obj)} {σ : L2.St} {Hm : Hp} {s : Shared} {ps : Array Value} {F : LF} {pm ctv : Value} {tk : Nat} {Q : VK} {h1 : Heap} (I : Inv X pins σ (ov Hm [(P, ps)]) { s with heap := h1 }) (nP : Hm P = none)
    (h : ∀ (f : Addr) (Hm' : Hp), Kx Hm Hm' → Hm' P = none → Hm f = none → Hm' f = some (LamO f F) → Q (.ref f) (ov Hm' [(P, ps)])) :
    EP X pins σ Q (.ref h1.objs.size) { s with heap := h1.push (PySem.W.kla_obj "<lambda>" F.qual F.params F.body F.scope F.cl pm F.c ctv), toks := tk } := by
  have nf : ov Hm [(P, ps)] h1.objs.size = none := I.hok.fresh (Nat.le_refl _)
  obtain ⟨n1, n2⟩ := ov_none nf
  have ne : h1.objs.size ≠ P := fun z => by rw [z, look1s] at n2; cases n2
  have J := I.laid (a := h1.objs.size) (h' := h1.push (PySem.W.kla_obj "<lambda>" F.qual F.params F.body F.scope F.cl pm F.c ctv)) (t' := tk) (o := LamO h1.objs.size F) (fun b u e => Heap.get?_push_of_some _ e) (Nat.le_refl _)
    ⟨⟨_, _, pm, ctv, Heap.get?_push_size _ rfl⟩, ⟨_, Heap.get?_push_size _ rfl⟩, fun h1 h2 ⟨od, sl, a, b, z⟩ st => ⟨od, sl, a, b, st _ z⟩⟩
  rw [ov1_upd ne] at J
  exact ⟨.ref h1.objs.size, _, J, rfl, h _ _ (Kx.new n1) (by rw [upd_ne ne.symm]; exact nP) n1 upd_same⟩
theorem pe_lam (TB : LamX.TabB X.base X.mg c P) (hcode : X.env.code = .ref c) (hq : X.env.qual ++ "<lambda>" = q) (hdef : defaultsOf params X.env = ([], [])) (hfree : ∀ y ∈ scope.names, y.2 = .free → X.env.scope.names.lookup y.1 = some .cell ∨ X.env.scope.names.lookup y.1 = some .free) :
    PE X (.Lambda params body scope pos) (tLamM P q fun c' => ⟨q, params, body, scope, cloFrom X.env.cells scope.names [], c'⟩) := by
  subst hq
  constructor
  rintro pins s σ H Q I ⟨Hm, ps, rfl, nP, ⟨tr, among⟩, h⟩
  have cap : ∀ y ∈ scope.names, y.2 = .free → ∃ c, X.env.cells.lookup y.1 = some c := fun y hy e => (hfree y hy e).elim (fun z => I.ok.has _ (.inl z)) fun z => I.ok.has _ (.inr z)
  have hP : s.heap.get? P = some { cls := .none, data := .fields ps } := I.hok P _ (ov_in look1s)
  have bP := TB.bm.keeps I.bk
  have gl := I.mod.glob.keeps I.bk
  have cd := TB.code.keeps I.bk
  apply PySem.W.kla_eval hdef
  cases e : codeAmong pos ps.toList with
  | some cv =>
    obtain ⟨c', rfl, hc'⟩ := among pos cv e
    apply PySem.W.kla_makeFunctionHit (mg := X.mg) (closure_ok cap) I.ok.glob gl hcode cd hP tr e bP
    intro ctv h1 tk keep _
    have I1 : Inv X pins σ (ov Hm [(P, ps)]) { s with heap := h1 } := I.kept (t' := s.toks) keep
    exact lam_known (F := ⟨X.env.qual ++ "<lambda>", params, body, scope, cloFrom X.env.cells scope.names [], c'⟩) I1 nP fun f Hm' k n1 n2 n3 => h f c' Hm' ps k n1 (TabL.k k ⟨tr, among⟩) n2 n3 (k.o c' _ hc' LamX.codeO_ne)
  | none =>
    apply PySem.W.kla_makeFunction (mg := X.mg) (closure_ok cap) I.ok.glob gl hcode cd hP tr e TB.gP bP
    intro c' ctv h1 tk keep ge lt rec tab
    obtain ⟨c2, oc, fs, tq, ec, hoc, hd, hv⟩ := rec
    cases ec
    have I1 := LamX.inv_table (t' := s.toks) (more := #[rawInt pos.line, rawInt pos.col, .ref c']) I (ov_in look1s) (fun b ob nb e => keep b ob nb e) tab ge ⟨oc, fs, tq, hoc, hd, hv⟩
    have nc := I.hok.fresh ge
    obtain ⟨m1, m2⟩ := ov_none nc
    have ne : c' ≠ P := fun z => by rw [z, look1s] at m2; cases m2
    rw [ov1_tbl, ov1_upd ne] at I1
    have kc := Kx.new (u := CodeO c' (X.env.qual ++ "<lambda>")) m1
    have eL : (ps ++ #[rawInt pos.line, rawInt pos.col, .ref c']).toList = ps.toList ++ [rawInt pos.line, rawInt pos.col, .ref c'] := by simp
    have T1 : TabL (upd Hm c' (CodeO c' (X.env.qual ++ "<lambda>"))) (ps ++ #[rawInt pos.line, rawInt pos.col, .ref c']) (X.env.qual ++ "<lambda>") := by
      refine ⟨by rw [eL]; exact PySem.TriplesOk_snoc _ _ _ _ tr, fun p2 cv2 h2 => ?_⟩
      rw [eL] at h2
      rcases LamX.among_app _ tr h2 with z | z
      · obtain ⟨c0, e1, e2⟩ := among p2 cv2 z
        exact ⟨c0, e1, kc.o c0 _ e2 LamX.codeO_ne⟩
      · exact ⟨c', z, upd_same⟩
    exact lam_known (F := ⟨X.env.qual ++ "<lambda>", params, body, scope, cloFrom X.env.cells scope.names [], c'⟩) I1 (by rw [upd_ne ne.symm]; exact nP) fun f Hm' k n1 n2 n3 => h f c' Hm' _ (kc.trans k) n1 (T1.k k) (kc.f f n2) n3 (k.o c' _ upd_same LamX.codeO_ne)
end
end CH
end

section
set_option Elab.async false
set_option linter.all false
set_option maxRecDepth 100000
set_option maxHeartbeats 4000000
/-! calls to which cells and tables are lent -/
namespace CH
open PySem PySem.Spec PyProof.Rows L2
open LamX (CodeO)
open NdefX (NF NScope CellsAt startF ncx slotAt)
def tLend (X : Cx) (sp : Heap → Sp) (t : TA) : TE := fun σ H Q => t σ H fun vs H1 => ∃ (Hm : Hp) (T : List (Addr × Array Value)), H1 = ov Hm T ∧ OvOk Hm T ∧ ∀ B, Ext X.base B → X.Ok → Lent X σ B → sp B vs Hm (fun v H' => OvOk H' T → Q v (ov H' T)) C8.E0
section
variable {X : Cx} {k j : Nat} {x m : Str} {sp : Heap → Sp} {C : Addr} {p pos apos : Pos} {o e : Expr} {es : List Expr} {t : TA} {ta : TE}
/-- what is left of such a call -/
theorem lent_end {pins : List (Addr × Obj)} {σ : L2.St} {H : Hp} {s : Shared} {Q : VK} {f : Addr} {us : List Value} {s' : Shared} {r : Result} {Hm : Hp} {T : List (Addr × Array Value)} (I : Inv X pins σ (ov Hm T) s)
    (back : ∀ (Q : VK) (u : Value) (s' : Shared), CE X.stack X.prog X.w Hm s Q u s' → CE X.stack X.prog X.w (ov Hm T) s (fun v H' => ∃ Hm', H' = ov Hm' T ∧ OvOk Hm' T ∧ Q v Hm') u s')
    (h : CR CX0 X.stack X.prog X.w Hm s (fun v H' => OvOk H' T → Q v (ov H' T)) C8.E0 r s') : match r with
      | .ok (.ret u) => EP X pins σ Q u s'
      | _ => False := by
  cases r with
  | error e => exact h
  | ok fl =>
    cases fl with
    | ret u =>
      obtain ⟨v, H', os, br, un, hk, rv, Hm', rfl, ok, q⟩ := back _ _ _ h
      exact I.after ⟨v, _, os, br, un, hk, rv, q ok⟩
    | next => exact h
    | brk => exact h
    | cont => exact h
theorem pe_lend (F : ∀ B, Ext X.base B → C8.Cal X.prog X.w X.K X.mg B k x (sp B) []) (hfn : ∀ y, X.fn y = true) (hs : X.stack = X.env :: X.outer) (hf : X.env.frame = some X.env.locals) (hr : Room j X.A) (hk : k ≤ j) (hg : Gl X x) (ha : PA X (e :: es) t)
    (hdb : (x == ("__debug__" : Str)) = false := by decide) (he : starEach (e :: es) X.env = (false, eval e X.env) :: starEach es X.env := by rfl) (hpl : (backTo pos (starEach es X.env)).any (·.1) = false := by rfl) :
    PE X (.Call (.Name x p) (e :: es) [] pos) (tLend X sp t) := by
  obtain ⟨f, _, _, _, _, hm, kp, _, _⟩ := F X.base fun _ _ e => e
  constructor
  intro pins s σ H Q I h
  apply wpAny_Call_Name_kw
  apply ld_glob I hg hm _ hdb
  apply PySem.W.callWith_K (h₀ := X.base) I.ok.mod.kin kp (thn (ha.run pos pins s σ H _ I h) _) he hpl
  rintro us s1 ⟨vs, H1, I1, rv, Hm, T, rfl, ok, q⟩
  refine ⟨I1.kIn, ?_⟩
  obtain ⟨B, ext, lent, e0, back⟩ := lend I1 hfn hs hf ok
  obtain ⟨f1, fd1, ps1, ds1, F1, hm1, kp1, b1, d1⟩ := F B ext
  obtain rfl : f = f1 := by
    have := hm.symm.trans hm1
    cases this
    rfl
  obtain rfl : ds1 = [] := by
    cases d1
    rfl
  have q1 := q B ext I1.ok lent
  have lu : us.length = ps1.length := rv.length.symm.trans (F1.len _ _ _ _ q1)
  have kin : X.K.In s1.heap := I1.kIn
  have bd := b1 s1 us kin (by rw [List.append_nil]; exact lu)
  rw [List.append_nil] at bd
  refine wpAny_call (codeAny_mono (F1.run X.A X.stack s1 Hm ⟨us, []⟩ us vs _ C8.E0 (hr.mono hk) e0 bd rv q1) fun r s2 h2 => ?_)
  have z := lent_end (f := f) (us := us) (H := H) I1 back h2
  cases r with
  | error e1 => exact z.elim
  | ok fl =>
    cases fl with
    | ret u1 => exact z
    | next => exact z.elim
    | brk => exact z.elim
    | cont => exact z.elim
/-- .. by its place: a method -/
def tLendM (X : Cx) (C : Addr) (m : Str) (sp : Heap → Sp) (ta : TE) (t : TA) : TE := fun σ H Q => ta σ H fun x H1 => ∃ a dx fs, x = .ref a ∧ H1 a = some (.ins C dx fs) ∧ fs.lookup m = none ∧
  t σ H1 fun vs H2 => ∃ (Hm : Hp) (T : List (Addr × Array Value)), H2 = ov Hm T ∧ OvOk Hm T ∧ ∀ B, Ext X.base B → X.Ok → Lent X σ B → sp B (x :: vs) Hm (fun v H' => OvOk H' T → Q v (ov H' T)) C8.E0
theorem lent_run {pins : List (Addr × Obj)} {σ : L2.St} {s : Shared} {Q : VK} {f : Addr} {us : List Value} {vs : List V} {Hm : Hp} {T : List (Addr × Array Value)} (F : ∀ B, Ext X.base B → C8.Met X.prog X.w X.K X.mg B k C m (sp B) []) (hm : Meth X.K C m f) (hfn : ∀ y, X.fn y = true) (hs : X.stack = X.env :: X.outer) (hf : X.env.frame = some X.env.locals) (hr : Room j X.A) (hk : k ≤ j)
    (I : Inv X pins σ (ov Hm T) s) (ok : OvOk Hm T) (rv : Vals vs us) (q : ∀ B, Ext X.base B → X.Ok → Lent X σ B → sp B vs Hm (fun v H' => OvOk H' T → Q v (ov H' T)) C8.E0) : wpAny (model X.prog X.w) X.A (call (.ref f) us) (EP X pins σ Q) X.xe s := by
  obtain ⟨B, ext, lent, e0, back⟩ := lend I hfn hs hf ok
  obtain ⟨f1, fd1, ps1, ds1, _, hm1, F1, b1, d1⟩ := F B ext
  obtain rfl : f = f1 := by
    have := hm.at_.symm.trans hm1.at_
    cases this
    rfl
  obtain rfl : ds1 = [] := by
    cases d1
    rfl
  have q1 := q B ext I.ok lent
  have lu : us.length = ps1.length := rv.length.symm.trans (F1.len _ _ _ _ q1)
  have bd := b1 s us I.kIn (by rw [List.append_nil]; exact lu)
  rw [List.append_nil] at bd
  refine wpAny_call (codeAny_mono (F1.run X.A X.stack s Hm ⟨us, []⟩ us vs _ C8.E0 (hr.mono hk) e0 bd rv q1) fun r s2 h2 => ?_)
  have z := lent_end (f := f) (us := us) (H := Hm) I back h2
  cases r with
  | error e1 => exact z.elim
  | ok fl =>
    cases fl with
    | ret u1 => exact z
    | next => exact z.elim
    | brk => exact z.elim
    | cont => exact z.elim
theorem pe_lendM {pl : Sem Bool} (F : ∀ B, Ext X.base B → C8.Met X.prog X.w X.K X.mg B k C m (sp B) []) (hfn : ∀ y, X.fn y = true) (hs : X.stack = X.env :: X.outer) (hf : X.env.frame = some X.env.locals) (hr : Room j X.A) (hk : k ≤ j) (ho : PE X o ta) (ha : PA X (e :: es) t)
    (hst : starEach (e :: es) X.env = (false, eval e X.env) :: starEach es X.env := by rfl) (hpl : (backTo pos (starEach es X.env)).any (·.1) = false := by rfl)
    (ht : eval (.Call (.Attribute o m apos) (e :: es) [] pos) X.env = (do
      let ov ← eval o X.env
      standAt apos.atName
      let fx ← holding [ov] (getMethod ov m pl)
      callWith pos fx.1 fx.2 (backTo pos (starEach (e :: es) X.env)) (backToKw pos (keywordEach [] X.env))) := by rfl) :
    PE X (.Call (.Attribute o m apos) (e :: es) [] pos) (tLendM X C m sp ta t) := by
  obtain ⟨f, _, _, _, cl, hm, _, _, _⟩ := F X.base fun _ _ e => e
  constructor
  intro pins s σ H Q I h
  apply PySem.W.methodCall_KW (pl := pl) (thn (ho.run pins s σ H _ I h) _) ht
  rintro u s1 ⟨x, H1, I1, rx, a, dx, fs, ex, ea, l, q⟩
  subst ex
  obtain rfl : u = Value.ref a := rx
  apply getmeth_ok I1 ea cl hm l
  apply PySem.W.callWith_K (first := [.ref a]) (h₀ := X.base) I.ok.mod.kin hm.kp (thn (ha.run pos pins s1 σ H1 _ I1 q) _) hst hpl
  rintro us s2 ⟨vs, H2, I2, r, Hm, T, rfl, ok, q2⟩
  exact ⟨I2.kIn, lent_run (us := .ref a :: us) (vs := .ref a :: vs) F hm hfn hs hf hr hk I2 ok (.cons rfl r) q2⟩
theorem pe_lendM0 {pl : Sem Bool} (F : ∀ B, Ext X.base B → C8.Met X.prog X.w X.K X.mg B k C m (sp B) []) (hfn : ∀ y, X.fn y = true) (hs : X.stack = X.env :: X.outer) (hf : X.env.frame = some X.env.locals) (hr : Room j X.A) (hk : k ≤ j) (ho : PE X o ta)
    (ht : eval (.Call (.Attribute o m apos) [] [] pos) X.env = (do
      let ov ← eval o X.env
      standAt apos.atName
      let fx ← holding [ov] (getMethod ov m pl)
      callWith pos fx.1 fx.2 (backTo pos (starEach [] X.env)) (backToKw pos (keywordEach [] X.env))) := by rfl) :
    PE X (.Call (.Attribute o m apos) [] [] pos) (tLendM X C m sp ta tNil) := by
  obtain ⟨f, _, _, _, cl, hm, _, _, _⟩ := F X.base fun _ _ e => e
  constructor
  intro pins s σ H Q I h
  apply PySem.W.methodCall_KW (pl := pl) (thn (ho.run pins s σ H _ I h) _) ht
  rintro u s1 ⟨x, H1, I1, rx, a, dx, fs, ex, ea, l, q⟩
  subst ex
  obtain rfl : u = Value.ref a := rx
  apply getmeth_ok I1 ea cl hm l
  obtain ⟨Hm, T, rfl, ok, q2⟩ := q
  apply PySem.W.callWith_K0 (first := [.ref a]) I1.kIn hm.kp
  exact lent_run (us := [.ref a]) (vs := [.ref a]) F hm hfn hs hf hr hk I1 ok (.cons rfl .nil) q2
end
/-- what a lambda captured stands in what was lent -/
theorem cells_lent {X : Cx} {σ : L2.St} {B : Heap} {scope : Scope} {fr : List Str} {js : List Nat} {P : Program} {w : World} {K : PySem.W.Frag} {mg : Str → Option Value} (ok : X.Ok) (L : Lent X σ B)
    (sub : ∀ y ∈ scope.names, y.2 = .free → y.1 ∈ fr) (sup : ∀ y ∈ fr, (y, NameKind.free) ∈ scope.names) (kind : ∀ y ∈ fr, X.env.scope.names.lookup y = some .cell) (at_ : js.map (fun j => X.N[j]?) = fr.map some) (vals : ∀ j ∈ js, ∃ v, σ[j]? = some (some v))
    (A : Around) (outer : List Env) (s : Shared) (H : Hp) (e0 : Env0 P w K mg B A outer s H) : CellsAt (cloFrom X.env.cells scope.names []) fr (js.map (slotAt σ)) s.heap H := by
  have cap : ∀ y ∈ scope.names, y.2 = .free → ∃ c, X.env.cells.lookup y.1 = some c := fun y hy e => ok.has _ (.inl (kind _ (sub y hy e)))
  have ljs : js.length = fr.length := by
    have := congrArg List.length at_
    rwa [List.length_map, List.length_map] at this
  have key : ∀ (i : Nat) (y : Str), fr[i]? = some y → ∃ j v c u o, js[i]? = some j ∧ σ[j]? = some (some v) ∧ X.env.cells.lookup y = some c ∧ RelV v u ∧ s.heap.get? c = some o ∧ H c = none ∧ o.data = .cell (some u) := fun i y hy => by
    obtain ⟨j, hj⟩ : ∃ j, js[i]? = some j := ⟨_, List.getElem?_eq_getElem (by rw [ljs]; exact (List.getElem?_eq_some_iff.mp hy).1)⟩
    have e : (js.map fun j => X.N[j]?)[i]? = (fr.map some)[i]? := by rw [at_]
    rw [List.getElem?_map, List.getElem?_map, hj, hy] at e
    have hN : X.N[j]? = some y := Option.some.inj e
    obtain ⟨v, hv⟩ := vals j (List.mem_of_getElem? hj)
    obtain ⟨c, u, o, h1, h2, h3, h4⟩ := L j y v hN (kind y (List.mem_of_getElem? hy)) hv
    obtain ⟨h5, h6⟩ := e0.bs c o h3
    exact ⟨j, v, c, u, o, hj, hv, h1, h2, h5, h6, h4⟩
  refine ⟨by rw [List.length_map, ljs], fun y c e => ?_, fun x y c e1 e2 => ok.inj x y c (NdefX.clo_cm cap e1) (NdefX.clo_cm cap e2), fun i y hy => ?_⟩
  · have hc := NdefX.clo_cm cap e
    have hy : y ∈ fr := by
      rcases cloFrom_mem (PySem.mem_of_lookup e) with z | ⟨z, _⟩
      · cases z
      · exact sub (y, .free) z rfl
    obtain ⟨i, hi⟩ := List.mem_iff_getElem?.mp hy
    obtain ⟨j, v, c', u, o, _, _, h1, _, h3, h4, h5⟩ := key i y hi
    rw [hc] at h1
    cases h1
    exact ⟨h4, some u, o, h3, h5⟩
  · obtain ⟨j, v, c, u, o, hj, hv, h1, h2, h3, h4, h5⟩ := key i y hy
    refine ⟨c, NdefX.clo_has cap (sup y (List.mem_of_getElem? hy)) h1, fun v' e => ⟨u, ?_, o, h3, h5⟩⟩
    rw [List.getElem?_map, hj] at e
    have e : slotAt σ j = some v' := Option.some.inj e
    rw [NdefX.slotAt_of hv] at e
    rw [← Option.some.inj e]
    exact h2
/-- behind a step that keeps the tables -/
theorem ov_back {Hm H' : Hp} {T : List (Addr × Array Value)} (o : OvOk Hm T) (k : Kx (ov Hm T) H') (h : ∀ b ps, T.lookup b = some ps → H' b = some (.tbl ps)) : ∃ Hm', H' = ov Hm' T ∧ OvOk Hm' T ∧ Kx Hm Hm' ∧ ∀ b u, H' b = some u → (∀ ps, u ≠ .tbl ps) → Hm' b = some u := by
  let Hm' : Hp := fun b => match T.lookup b with
    | some _ => none
    | none => H' b
  have at_ : ∀ b, T.lookup b = none → Hm' b = H' b := fun b e => by
    show (match T.lookup b with | some _ => none | none => H' b) = _
    rw [e]
  have no : ∀ b ps, T.lookup b = some ps → Hm' b = none := fun b ps e => by
    show (match T.lookup b with | some _ => none | none => H' b) = _
    rw [e]
  have eH : H' = ov Hm' T := by
    funext b
    cases e : T.lookup b with
    | some ps => rw [h b ps e, ov_in e]
    | none => rw [ov_out e, at_ b e]
  have out : ∀ b u, H' b = some u → (∀ ps, u ≠ .tbl ps) → T.lookup b = none := fun b u e n => by
    cases z : T.lookup b with
    | none => rfl
    | some ps =>
      rw [h b ps z] at e
      exact absurd (Option.some.inj e).symm (n ps)
  refine ⟨Hm', eH, ⟨no⟩, ⟨fun b u e n => ?_, fun P t => ?_, fun b e => ?_⟩, fun b u e n => by rw [at_ b (out b u e n)]; exact e⟩
  · have e1 := k.o b u (ov_of o e).1 n
    rw [at_ b (out b u e1 n)]
    exact e1
  · obtain ⟨ps, e, tr⟩ := t
    obtain ⟨e1, e2⟩ := ov_of o e
    obtain ⟨qs, e3, tr3⟩ := k.g P ⟨ps, e1, tr⟩
    exact ⟨qs, by rw [at_ P e2]; exact e3, tr3⟩
  · cases z : T.lookup b with
    | some ps => exact o.no b ps z
    | none =>
      rw [at_ b z] at e
      exact (ov_none (k.f b e)).1
end CH
end

section
set_option Elab.async false
set_option linter.all false
set_option maxRecDepth 100000
set_option maxHeartbeats 4000000
/-! list comprehensions of one clause: where an error is handled; told of the state they begin in -/
namespace CH
open PySem PySem.Spec PyProof.Rows L2
open L2H (HotC PIH TurnH PIEH)
/-- a block's context that keeps the pins -/
abbrev blkH (X : Cx) (s : Shared) (H : Hp) (scope : Scope) (ce : Env) (fp : List Addr) : Cx := { X.blk s H scope ce fp with pn := X.pn }
/-- what an iterator does in a context -/
structure Runs (Y : Cx) (tg : Expr) (J : It) (fp : List Addr) (it : Addr) (tn : Nat → Heap → Prop) : Prop where
  obj : ∀ i h, tn i h → ∀ b ∈ fp, ∃ o, h.get? b = some o ∧ ∀ v, o.data ≠ .cell v
  keep : ∀ i h h', tn i h → (∀ b ∈ fp, ∀ o, h.get? b = some o → h'.get? b = some o) → tn i h'
  next : ∀ (i : Nat) (s : Shared) (σ : L2.St) (H : Hp), Inv Y [] σ H s → (∀ b ∈ fp, FpOk Y [] H b) → tn i s.heap → J.go i H → wpAny (model Y.prog Y.w) Y.A (pyNext (.ref it)) (fun r s1 => ∃ u, r = some u ∧
    wpAny (model Y.prog Y.w) Y.A (letOwnedTupleGo tg (.ref it) u) (fun _ s2 => ∃ x H', Inv Y [] σ H' s2 ∧ RelV x u ∧ J.yld i H x H' ∧ tn (i + 1) s2.heap ∧ ∀ b ∈ fp, H' b = none) (fun _ _ => False) s1) (fun _ _ => False) s
  stop : ∀ (i : Nat) (s : Shared) (σ : L2.St) (H : Hp), Inv Y [] σ H s → (∀ b ∈ fp, FpOk Y [] H b) → tn i s.heap → J.stop i H → wpAny (model Y.prog Y.w) Y.A (pyNext (.ref it)) (fun r s1 => r = none ∧ Inv Y [] σ H s1) (fun _ _ => False) s
section
variable {X : Cx} {pins : List (Addr × Obj)} {σ : L2.St} {H : Hp} {s : Shared} {scope : Scope} {own : List (Str × Nat)}
/-- the block's state, pins kept -/
theorem blk_startH {fp : List Addr} (I : Inv X pins σ H s) (ok : BlkOk X.N X.env.scope scope own) (nd : X.N.Nodup) (hfp : ∀ b ∈ fp, FpOk X pins H b ∧ b < s.heap.objs.size) :
    Inv (blkH X s H scope (compEnvC scope (cellsFrom (s.heap.objs.size + 1) scope.names (cloFrom X.env.cells scope.names [])) s.heap.objs.size X.env) fp) [] (wipe σ (own.map (·.2))) H { s with heap := pushCells (s.heap.push { cls := .type "dict", data := .dict #[] }) scope.names } := by
  have J := block_start I ok nd hfp
  refine ⟨⟨J.ok.mod, J.ok.kind, J.ok.glob, J.ok.blt, J.ok.above, J.ok.inj, J.ok.has, J.ok.cab, J.ok.hd, J.ok.frames, J.ok.stk, J.ok.exf, J.ok.bs, J.ok.bsz, J.ok.noex, J.ok.exfs, J.ok.funs, J.ok.frf⟩, J.os, J.bare, J.base, J.loc, J.cell, J.free, J.freeC, fun p hp => ?_, J.hok, J.len⟩
  have hp : p ∈ X.pn := by simpa using (show p ∈ X.pn ++ [] from hp)
  obtain ⟨p1, p2, p3, p4, p5⟩ := I.pin p (List.mem_append_left _ hp)
  refine ⟨pushCells_keeps _ _ _ _ (Heap.get?_push_of_some _ p1), p2, Nat.ne_of_lt (Heap.lt_size p1), fun z => ?_, p5⟩
  rcases List.mem_cons.mp (I.stkSub p.1 z) with e | e
  · exact p3 e
  · exact p4 e
end
section
variable {X : Cx}
/-- the comprehension from its iterator on -/
theorem comp_own {pins : List (Addr × Obj)} {σ : L2.St} {H : Hp} {s : Shared} {Q : VK} {elt tg iter : Expr} {ifs : List Expr} {scope : Scope} {own : List (Str × Nat)} {pos : Pos} {g : TG} {tt : TT} {te : TE} {it : Addr} {fp : List Addr} {tn : Nat → Heap → Prop} {J : It}
    (nd : X.N.Nodup) (I : Inv X pins σ H s) (ok : BlkOk X.N X.env.scope scope own) (st : tn 0 s.heap) (hfp : ∀ b ∈ fp, FpOk X pins H b)
    (self : ∀ (A : Around) (i : Nat) (s : Shared) (Q : Value → Shared → Prop) (E : Value → Shared → Prop), tn i s.heap → Q (.ref it) s → wpAny (model X.prog X.w) A (pyIter (.ref it)) Q E s)
    (R : ∀ (s : Shared) (H : Hp) (ce : Env), Runs (blkH X s H scope ce fp) tg J fp it tn)
    (parts : ∀ (s : Shared) (H : Hp) (cl : List (Str × Addr)) (C : Addr), Inv X pins σ H s → PG (blkH X s H scope (compEnvC scope cl C X.env) fp) tg g ∧ PTs (blkH X s H scope (compEnvC scope cl C X.env) fp) ifs tt ∧ PE (blkH X s H scope (compEnvC scope cl C X.env) fp) elt te)
    (q : ∀ D, H D = none → ∃ W : Nat → Nat → Hp → Prop, (∃ m, W 0 m (upd H D (.lst []))) ∧ ∀ i m H, W i m H →
      (J.stop i H ∧ Q (.ref D) H) ∨ (J.go i H ∧ ∃ Nx : Hp → Prop, (∀ H', Nx H' → ∃ m', m' < m ∧ W (i + 1) m' H') ∧ ∀ x H', J.yld i H x H' → g x (wipe σ (own.map (·.2))) H' fun σ2 H2 => wipe σ2 (own.map (·.2)) = wipe σ (own.map (·.2)) ∧ tt σ2 H2 fun b H3 =>
        if b = true then te σ2 H3 fun y H4 => ∃ acc, H4 D = some (.lst acc) ∧ acc.length < sizeLine ∧ Nx (upd H4 D (.lst (acc ++ [y]))) else Nx H3)) :
    wpAny (model X.prog X.w) X.A (newList []) (fun acc s3 => wpAny (model X.prog X.w) X.A (newFunctionEnv scope X.env.globals (cloFrom X.env.cells scope.names []) [] X.env.qual none .none (some X.env))
      (fun cenv s4 => codeAny (model X.prog X.w) X.A (.compStart (.ListComp elt [⟨tg, iter, ifs, 0⟩] scope pos) 0 (.ref it) acc { cenv with scope := relabel scope X.env }) (compPost (model X.prog X.w) X.A X.xe none (EP X pins σ Q) acc cenv.locals) s4) X.xe s3) X.xe s := by
  have h0 : H s.heap.objs.size = none := I.hok.fresh (Nat.le_refl _)
  obtain ⟨W, ⟨m0, w0⟩, turn⟩ := q _ h0
  have lt0 : ∀ b ∈ fp, b < s.heap.objs.size := fun b hb => by
    obtain ⟨o, e, _⟩ := (R s H X.env).obj 0 _ st b hb
    exact Heap.lt_size e
  refine wpAny_newObj_type (newEnv_comp ?_) (by show 0 ≤ sizeLine; decide)
  have I1 : Inv X pins σ (upd H s.heap.objs.size (.lst [])) { s with heap := s.heap.push { cls := .type "list", data := .seq ([] : List Value).toArray } } :=
    I.laid (t' := s.toks) (fun b o e => Heap.get?_push_of_some _ e) (Nat.le_refl _) ⟨Nat.zero_le _, [], 0, .nil, Heap.get?_push_size _ rfl⟩
  have st1 : tn 0 (s.heap.push { cls := .type "list", data := .seq ([] : List Value).toArray }) := (R s H X.env).keep _ _ _ st fun b _ o e => Heap.get?_push_of_some _ e
  have F1 : ∀ b ∈ fp, FpOk X pins (upd H s.heap.objs.size (.lst [])) b ∧ b < (s.heap.push { cls := .type "list", data := .seq ([] : List Value).toArray }).objs.size := fun b hb => by
    refine ⟨⟨?_, (hfp b hb).2⟩, by rw [Heap.size_push]; exact Nat.lt_succ_of_lt (lt0 b hb)⟩
    rw [upd_ne (Nat.ne_of_lt (lt0 b hb))]
    exact (hfp b hb).1
  generalize s.heap.objs.size = D at *
  generalize hsD : ({ s with heap := s.heap.push { cls := .type "list", data := .seq ([] : List Value).toArray } } : Shared) = sD at *
  have esD : s.heap.push { cls := .type "list", data := .seq ([] : List Value).toArray } = sD.heap := by rw [← hsD]
  rw [esD] at st1 F1
  generalize upd H D (.lst []) = H1 at *
  have I2 := blk_startH I1 ok nd F1
  obtain ⟨pg, pt, pe⟩ := parts sD H1 (cellsFrom (sD.heap.objs.size + 1) scope.names (cloFrom X.env.cells scope.names [])) sD.heap.objs.size I1
  show codeAny _ _ (.compStart (.ListComp elt [⟨tg, iter, ifs, 0⟩] scope pos) 0 (.ref it) (.ref D) (compEnvC scope (cellsFrom (sD.heap.objs.size + 1) scope.names (cloFrom X.env.cells scope.names [])) sD.heap.objs.size X.env)) (compPost _ _ _ _ _ _ sD.heap.objs.size) { sD with heap := pushCells (sD.heap.push { cls := .type "dict", data := .dict #[] }) scope.names }
  have eL : (compEnvC scope (cellsFrom (sD.heap.objs.size + 1) scope.names (cloFrom X.env.cells scope.names [])) sD.heap.objs.size X.env).locals = sD.heap.objs.size := rfl
  have st2 : tn 0 (pushCells (sD.heap.push { cls := .type "dict", data := .dict #[] }) scope.names) := (R s H X.env).keep _ _ _ st1 fun b _ o e => pushCells_keeps _ _ _ _ (Heap.get?_push_of_some _ e)
  generalize compEnvC scope (cellsFrom (sD.heap.objs.size + 1) scope.names (cloFrom X.env.cells scope.names [])) sD.heap.objs.size X.env = ce at *
  have Ry := R sD H1 ce
  have okFp : ∀ {σ' : L2.St} {H' : Hp} {s' : Shared}, Inv (blkH X sD H1 scope ce fp) [] σ' H' s' → (∀ b ∈ fp, H' b = none) → ∀ b ∈ fp, FpOk (blkH X sD H1 scope ce fp) [] H' b := fun {σ' H' s'} J hn b hb =>
    ⟨hn b hb, (J.ok.exf b hb).1, J.ok.exfs b hb, .inl hb, fun x c e => (J.ok.exf b hb).2 x c e, fun p hp => (F1 b hb).1.2.2.2.2.2 p (List.mem_append_left _ (by simpa using (show p ∈ X.pn ++ [] from hp)))⟩
  have loop : codeAny (model X.prog X.w) X.A (.compLoop (.ListComp elt [⟨tg, iter, ifs, 0⟩] scope pos) 0 (.ref it) (.ref D) ce) (compPost (model X.prog X.w) X.A X.xe none (EP X pins σ Q) (.ref D) sD.heap.objs.size) { sD with heap := pushCells (sD.heap.push { cls := .type "dict", data := .dict #[] }) scope.names } := by
    apply compLoop_any (fun n s' => ∃ i H', Inv (blkH X sD H1 scope ce fp) [] (wipe σ (own.map (·.2))) H' s' ∧ tn i s'.heap ∧ (∀ b ∈ fp, H' b = none) ∧ W i n H') _ m0 ⟨0, H1, I2, st2, fun b hb => (F1 b hb).1.1, w0⟩
    rintro n s5 ⟨i, H5, I5, st5, n5, w5⟩
    rcases turn i n H5 w5 with ⟨halt, last⟩ | ⟨go, Nx, less, step⟩
    · refine thnF (Ry.stop i s5 _ H5 I5 (okFp I5 n5) st5 halt) fun r s6 h6 => ?_
      obtain ⟨rfl, I6⟩ := h6
      have nC : H5 sD.heap.objs.size = none := by
        have z : H5 ce.locals = none := I6.free
        rwa [eL] at z
      obtain ⟨m, hn, _⟩ := I6.loc
      have hn : s6.heap.Ns ce.locals m := hn
      rw [eL] at hn
      have I7 : Inv X pins σ H5 s6 := I1.call' (ch := fp) I6.os I6.base I6.hok I6.bare fun b hb => ⟨(F1 b hb).1.2.2.2.1, (F1 b hb).1.2.1, (F1 b hb).1.2.2.2.2.1, (F1 b hb).1.2.2.2.2.2⟩
      obtain ⟨f0, f1, f2, f3, f4, f5⟩ := I1.fpOk (Nat.le_refl _) nC
      exact ⟨m, hn, fun h2 sb => ⟨.ref D, H5, I7.turned (t' := s6.toks) (fun b o hb e => (sb.2 b hb).trans e) f0 f1 f3 f4 f5, rfl, last⟩⟩
    · refine thnF (Ry.next i s5 _ H5 I5 (okFp I5 n5) st5 go) fun r s6 h6 => ?_
      obtain ⟨u, rfl, h6⟩ := h6
      refine thnF h6 fun _ s7 h7 => ?_
      obtain ⟨x, H7, I7, r7, y7, st7, n7⟩ := h7
      have P7 := I7.pinned (okFp I7 n7) (Ry.obj _ _ st7)
      refine thnF (pg.run _ s7 _ H7 x u _ P7 r7 (step x H7 y7)) fun _ s8 h8 => ?_
      obtain ⟨σ8, H8, I8, e8, q8⟩ := h8
      refine thnF (pt.run _ s8 σ8 H8 _ I8 q8) fun b s9 h9 => ?_
      obtain ⟨H9, I9, q9⟩ := h9
      have close : ∀ {s' : Shared} {H' : Hp}, Inv (blkH X sD H1 scope ce fp) ([] ++ pinsAt fp s7.heap) σ8 H' s' → Nx H' → ∃ m, m < n ∧ ∃ i H', Inv (blkH X sD H1 scope ce fp) [] (wipe σ (own.map (·.2))) H' s' ∧ tn i s'.heap ∧ (∀ b ∈ fp, H' b = none) ∧ W i m H' := fun {s' H'} J nx => by
        obtain ⟨m1, lt1, w1⟩ := less H' nx
        have pp : ∀ b ∈ fp, ∀ o, s7.heap.get? b = some o → s'.heap.get? b = some o ∧ H' b = none := fun b hb o e => by
          have z := J.pin (b, o) (List.mem_append_right _ (List.mem_append_right _ (mem_pinsAt hb e)))
          exact ⟨z.1, z.2.1⟩
        have ll : (wipe σ (own.map (·.2))).length = σ8.length := by rw [← e8, wipe_length]
        refine ⟨m1, lt1, i + 1, H', (J.unpinned (pins := [])).weak ll (fun j v e => ?_), Ry.keep _ _ _ st7 fun b hb o e => (pp b hb o e).1, fun b hb => ?_, w1⟩
        · rw [← e8] at e
          exact (wipe_some e).1
        · obtain ⟨o, e, _⟩ := Ry.obj _ _ st7 b hb
          exact (pp b hb o e).2
      cases b with
      | false => exact close I9 (by simpa using q9)
      | true =>
        have q9 := (if_pos rfl : (if true = true then _ else _) = _) ▸ q9
        refine thnF (pe.run _ s9 σ8 H9 _ I9 q9) fun z s10 h10 => ?_
        obtain ⟨yv, H10, I10, r10, acc, hD, lz, nx⟩ := h10
        exact app_ok (X := blkH X sD H1 scope ce fp) I10 hD lz r10 fun s11 I11 => close I11 nx
  exact codeAny_compStart_list loop (self X.A 0 _ _ _ st2 loop)
variable {elt tg iter : Expr} {ifs : List Expr} {scope : Scope} {own : List (Str × Nat)} {pos : Pos} {wi : TI} {g : TG} {tt : TT} {te : TE}
theorem capt {pins : List (Addr × Obj)} {σ : L2.St} {H : Hp} {s : Shared} (I : Inv X pins σ H s) (ok : BlkOk X.N X.env.scope scope own) : ∀ y ∈ scope.names, y.2 = .free → ∃ c, X.env.cells.lookup y.1 = some c := fun y hy e => (ok.free y hy e).elim (fun k => I.ok.has _ (.inl k)) fun k => I.ok.has _ (.inr k)
/-- where an error is handled -/
theorem pe_lcH (hot : HotC X) (nd : X.N.Nodup) (hi : PIH X tg iter wi) (ok : BlkOk X.N X.env.scope scope own)
    (hg : ∀ (s : Shared) (H : Hp) (C : Addr) (cl : List (Str × Addr)) (fp : List Addr), PG (blkH X s H scope (compEnvC scope cl C X.env) fp) tg g) (ht : ∀ (s : Shared) (H : Hp) (C : Addr) (cl : List (Str × Addr)) (fp : List Addr), PTs (blkH X s H scope (compEnvC scope cl C X.env) fp) ifs tt)
    (he : ∀ (s : Shared) (H : Hp) (C : Addr) (cl : List (Str × Addr)) (fp : List Addr), PE (blkH X s H scope (compEnvC scope cl C X.env) fp) elt te) (hs : ∀ x, foldedSetIterable iter X.env x = pure x := by intro _; rfl) :
    PE X (.ListComp elt [⟨tg, iter, ifs, 0⟩] scope pos) (tLc wi g tt te (own.map (·.2))) := by
  constructor
  intro pins s σ H Q I h
  rw [eval_ListComp]
  apply wpAny_comprehension_free (use := none) rfl hs (closure_ok (capt I ok)) ok.kind (fun y hy e => by rw [ok.uniq y hy, e])
  refine thn (hi.run pins s σ H _ I h) fun xv s1 hx => thn hx fun itv s2 h2 => ?_
  obtain ⟨it, fp, tn, J, H2, rfl, I2, T, st2, f2, q⟩ := h2
  exact comp_own nd I2 ok st2 f2 T.self (fun s H ce => ⟨T.obj, T.keep, fun i s5 σ5 H5 I5 f5 st5 go => T.item (blkH X s H scope ce fp) rfl rfl rfl hot i [] s5 σ5 H5 _ I5 f5 st5 go, fun i s5 σ5 H5 I5 f5 st5 ha => T.done (blkH X s H scope ce fp) rfl rfl rfl hot i [] s5 σ5 H5 _ I5 f5 st5 ha⟩) (fun s H cl C _ => ⟨hg s H C cl fp, ht s H C cl fp, he s H C cl fp⟩) q
/-- told of the state that the block begins in -/
theorem pe_lcT (hc : X.calm = true) (nd : X.N.Nodup) (hi : PI X tg iter wi) (ok : BlkOk X.N X.env.scope scope own)
    (hg : ∀ (s : Shared) (H : Hp) (C : Addr) (cl : List (Str × Addr)) (fp : List Addr), PG (blkH X s H scope (compEnvC scope cl C X.env) fp) tg g) (ht : ∀ (s : Shared) (H : Hp) (C : Addr) (cl : List (Str × Addr)) (fp : List Addr), PTs (blkH X s H scope (compEnvC scope cl C X.env) fp) ifs tt)
    {σ0 : L2.St} (he : ∀ (s : Shared) (H : Hp) (C : Addr) (cl : List (Str × Addr)) (fp : List Addr), (∃ pins, Inv X pins σ0 H s) → PE (blkH X s H scope (compEnvC scope cl C X.env) fp) elt te) (hs : ∀ x, foldedSetIterable iter X.env x = pure x := by intro _; rfl) :
    PE X (.ListComp elt [⟨tg, iter, ifs, 0⟩] scope pos) (fun σ H Q => σ = σ0 ∧ tLc wi g tt te (own.map (·.2)) σ H Q) := by
  constructor
  rintro pins s σ H Q I ⟨rfl, h⟩
  rw [eval_ListComp]
  apply wpAny_comprehension_free (use := none) rfl hs (closure_ok (capt I ok)) ok.kind (fun y hy e => by rw [ok.uniq y hy, e])
  refine thn (hi.run pins s σ H _ I h) fun xv s1 hx => thn hx fun itv s2 h2 => ?_
  obtain ⟨it, fp, tn, J, H2, rfl, I2, T, st2, f2, q⟩ := h2
  exact comp_own nd I2 ok st2 f2 T.self (fun s H ce => ⟨T.obj, T.keep, fun i s5 σ5 H5 I5 f5 st5 go => T.item (blkH X s H scope ce fp) rfl rfl rfl hc i [] s5 σ5 H5 _ I5 f5 st5 go, fun i s5 σ5 H5 I5 f5 st5 ha => T.done (blkH X s H scope ce fp) rfl rfl rfl hc i [] s5 σ5 H5 _ I5 f5 st5 ha⟩) (fun s H cl C J => ⟨hg s H C cl fp, ht s H C cl fp, he s H C cl fp ⟨pins, J⟩⟩) q
end
end CH
end

section
set_option Elab.async false
set_option linter.all false
set_option maxRecDepth 100000
/-! lemmas that the program's own defs lean on -/
namespace CH
open PySem PySem.Spec PyProof.Rows L2
open GxR (TabB TabG Tabbed)
theorem inV_str {x : Str} : ∀ xs : List Str, inV (.str x) (xs.map V.str) = decide (x ∈ xs)
  | [] => by simp [inV]
  | y :: ys => by
    have ih := inV_str (x := x) ys
    have e : inV (.str x) ((y :: ys).map V.str) = (decide (y = x) || inV (.str x) (ys.map V.str)) := rfl
    rw [e, ih]
    by_cases h : y = x
    · subst h; simp
    · have h' : ¬ x = y := fun z => h z.symm
      simp [h, h']
theorem flat_str : ∀ xs : List Str, (xs.map V.str).all flatV = true
  | [] => rfl
  | _ :: xs => flat_str xs
theorem flat_int : ∀ xs : List Int, (xs.map V.int).all flatV = true
  | [] => rfl
  | _ :: xs => flat_int xs
theorem blT {p : Prop} [Decidable p] (h : p) : V.bl (decide p) = V.bl true := by rw [decide_eq_true h]
theorem blF {p : Prop} [Decidable p] (h : ¬ p) : V.bl (decide p) = V.bl false := by rw [decide_eq_false h]
theorem cut2 (w : Wd) : cutV w.V none (some 2) = (kW w).map kV := by
  unfold cutV
  rw [HT.sIx_none, show HT.sIx w.V.length w.V.length (some 2) = min 2 w.V.length from HT.sIx_nat w.V.length w.V.length 2]
  rfl
theorem not_whole2 (w : Wd) : ¬ (HT.sIx w.V.length 0 none = 0 ∧ HT.sIx w.V.length w.V.length (some 2) = w.V.length) := by
  rw [show HT.sIx w.V.length w.V.length (some 2) = min 2 w.V.length from HT.sIx_nat w.V.length w.V.length 2]
  intro h
  have h2 : (2 : Nat) = 5 := h.2
  exact absurd h2 (by decide)
theorem inV_int {x : Int} : ∀ xs : List Int, inV (.int x) (xs.map V.int) = decide (x ∈ xs)
  | [] => by simp [inV]
  | y :: ys => by
    have ih := inV_int (x := x) ys
    have e : inV (.int x) ((y :: ys).map V.int) = (decide (y = x) || inV (.int x) (ys.map V.int)) := rfl
    rw [e, ih]
    by_cases h : y = x
    · subst h; simp
    · have h' : ¬ x = y := fun z => h z.symm
      simp [h, h']
theorem cut2b (w : Wd) : cutV w.V (some 2) none = [.int w.p, .int w.o, .str w.a] := by
  unfold cutV
  rw [HT.sIx_none, show HT.sIx w.V.length 0 (some 2) = min 2 w.V.length from HT.sIx_nat w.V.length 0 2]
  rfl
theorem not_whole2b (w : Wd) : ¬ (HT.sIx w.V.length 0 (some 2) = 0 ∧ HT.sIx w.V.length w.V.length none = w.V.length) := by
  rw [show HT.sIx w.V.length 0 (some 2) = min 2 w.V.length from HT.sIx_nat w.V.length 0 2]
  intro h
  have h2 : (2 : Nat) = 0 := h.1
  exact absurd h2 (by decide)
def kPO (p o : Int) : List Key := [Sum.inl p, Sum.inl o]
theorem kPO_inj {a b c d : Int} : kPO a b = kPO c d ↔ a = c ∧ b = d := by
  unfold kPO
  constructor
  · intro h
    injection h with h1 h2
    injection h2 with h2 _
    exact ⟨Sum.inl.inj h1, Sum.inl.inj h2⟩
  · rintro ⟨rfl, rfl⟩
    rfl
/-- the dict of the answers -/
def AnsD (kvs : List (List Key × V)) (f : Int → Int → Option Str) : Prop := ∀ p o, valV kvs (kPO p o) = (f p o).map V.str
theorem range_take {i n : Nat} (h : i < n) : (List.range n).take (i + 1) = (List.range n).take i ++ [i] := by
  rw [List.take_add_one, List.getElem?_range h] <;> rfl
/-- words and a meeting as they are handed in -/
structure Asked (K : PySem.W.Frag) (H : Hp) (l : Addr) (ws : List Wd) (a : Addr) (m : Mt) (cm cc : Addr) : Prop where
  hw : WsAt K H l ws
  h80 : ws.length ≤ 80
  ok : ∀ x ∈ ws, x.ok
  al : Alike ws
  hm : MAt K H a m
  mok : m.ok
  tm : TabG H cm
  tc : TabG H cc
theorem Asked.k {cm cc : Addr} {K : PySem.W.Frag} {H H' : Hp} {l a : Addr} {ws : List Wd} {m : Mt} (k : Kx H H') (h : Asked K H l ws a m cm cc) : Asked K H' l ws a m cm cc :=
  ⟨h.hw.k k, h.h80, h.ok, h.al, h.hm.k k, h.mok, k.g _ h.tm, k.g _ h.tc⟩
end CH
end

section
set_option Elab.async false
set_option linter.all false
set_option maxRecDepth 100000
set_option maxHeartbeats 4000000
/-! things of many sorts: what they are, how they are made -/
namespace CH
open PySem PySem.Spec PyProof.Rows L2
inductive Th where
  | non
  | bl (b : Bool)
  | int (i : Int)
  | str (s : Str)
  | lst (xs : List Th)
  | tup (xs : List Th)
  | dct
mutual
/-- the value is this thing -/
def At (H : Hp) : Th → V → Prop
  | .non, v => v = .non
  | .bl b, v => v = .bl b
  | .int i, v => v = .int i
  | .str s, v => v = .str s
  | .lst ds, v => ∃ (a : Addr) (ys : List V), v = .ref a ∧ H a = some (.lst ys) ∧ Ats H ds ys
  | .tup ds, v => ∃ (a : Addr) (ys : List V), v = .ref a ∧ H a = some (.tup ys) ∧ Ats H ds ys
  | .dct, v => ∃ a : Addr, v = .ref a ∧ H a = some (.dK [])
def Ats (H : Hp) : List Th → List V → Prop
  | [], ys => ys = []
  | d :: ds, ys => ∃ (v : V) (vs : List V), ys = v :: vs ∧ At H d v ∧ Ats H ds vs
end
def Sub (H H' : Hp) : Prop := ∀ b u, H b = some u → (∀ ps, u ≠ .tbl ps) → H' b = some u
theorem Kx.sub {H H' : Hp} (k : Kx H H') : Sub H H' := k.o
mutual
theorem At.mono {H H' : Hp} (s : Sub H H') : ∀ {d : Th} {v : V}, At H d v → At H' d v
  | .non, _, h => h
  | .bl _, _, h => h
  | .int _, _, h => h
  | .str _, _, h => h
  | .lst _, _, ⟨a, ys, e, h, t⟩ => ⟨a, ys, e, s _ _ h (fun ps z => nomatch z), Ats.mono s t⟩
  | .tup _, _, ⟨a, ys, e, h, t⟩ => ⟨a, ys, e, s _ _ h (fun ps z => nomatch z), Ats.mono s t⟩
  | .dct, _, ⟨a, e, h⟩ => ⟨a, e, s _ _ h fun ps z => nomatch z⟩
theorem Ats.mono {H H' : Hp} (s : Sub H H') : ∀ {ds : List Th} {vs : List V}, Ats H ds vs → Ats H' ds vs
  | [], _, h => h
  | _ :: _, _, ⟨v, vs, e, h, t⟩ => ⟨v, vs, e, At.mono s h, Ats.mono s t⟩
end
theorem At.k {H H' : Hp} {d : Th} {v : V} (k : Kx H H') (h : At H d v) : At H' d v := h.mono k.sub
theorem Ats.k {H H' : Hp} {ds : List Th} {vs : List V} (k : Kx H H') (h : Ats H ds vs) : Ats H' ds vs := h.mono k.sub
theorem Ats.len {H : Hp} : ∀ {ds : List Th} {vs : List V}, Ats H ds vs → vs.length = ds.length
  | [], _, h => by rw [show _ = [] from h] <;> rfl
  | _ :: _, _, ⟨v, vs, e, _, t⟩ => by rw [e, List.length_cons, List.length_cons, Ats.len t]
theorem Ats.at {H : Hp} : ∀ {ds : List Th} {vs : List V}, Ats H ds vs → ∀ {i : Nat} {v : V}, vs[i]? = some v → ∃ d, ds[i]? = some d ∧ At H d v
  | [], _, h, i, v, e => by rw [show _ = [] from h] at e; cases e
  | d :: _, _, ⟨w, vs, eq, a, t⟩, i, v, e => by
    subst eq
    cases i with
    | zero => exact ⟨d, rfl, by cases e; exact a⟩
    | succ i => exact Ats.at t e
theorem Ats.mem {H : Hp} {ds : List Th} {vs : List V} (h : Ats H ds vs) {v : V} (m : v ∈ vs) : ∃ d ∈ ds, At H d v := by
  obtain ⟨i, e⟩ := List.mem_iff_getElem?.mp m
  obtain ⟨d, e1, a⟩ := h.at e
  exact ⟨d, List.mem_of_getElem? e1, a⟩
theorem Ats.app {H : Hp} : ∀ {ds es : List Th} {vs us : List V}, Ats H ds vs → Ats H es us → Ats H (ds ++ es) (vs ++ us)
  | [], _, _, _, h, g => by rw [show _ = [] from h]; exact g
  | _ :: _, _, _, _, ⟨v, vs, e, a, t⟩, g => by subst e; exact ⟨v, _, rfl, a, t.app g⟩
theorem Ats.one {H : Hp} {d : Th} {v : V} (h : At H d v) : Ats H [d] [v] := ⟨v, [], rfl, h, rfl⟩
theorem Ats.take {H : Hp} : ∀ {ds : List Th} {vs : List V} (n : Nat), Ats H ds vs → Ats H (ds.take n) (vs.take n)
  | [], _, n, h => by rw [show _ = [] from h, List.take_nil, List.take_nil]; exact rfl
  | _ :: _, _, 0, _ => by rw [List.take_zero, List.take_zero]; exact rfl
  | _ :: _, _, n + 1, ⟨v, vs, e, a, t⟩ => by subst e; exact ⟨v, _, rfl, a, t.take n⟩
theorem Ats.drop {H : Hp} : ∀ {ds : List Th} {vs : List V} (n : Nat), Ats H ds vs → Ats H (ds.drop n) (vs.drop n)
  | [], _, n, h => by rw [show _ = [] from h, List.drop_nil, List.drop_nil]; exact rfl
  | _ :: _, _, 0, h => h
  | _ :: _, _, n + 1, ⟨v, vs, e, a, t⟩ => by subst e; exact t.drop n
theorem Ats.rep {H : Hp} {ds : List Th} {vs : List V} (h : Ats H ds vs) : ∀ n : Nat, Ats H (List.replicate n ds).flatten (List.replicate n vs).flatten
  | 0 => rfl
  | n + 1 => by rw [List.replicate_succ, List.replicate_succ, List.flatten_cons, List.flatten_cons]; exact h.app (h.rep n)
/-! ### what sort it is -/
def Th.ty : Th → String
  | .non => "NoneType"
  | .bl _ => "bool"
  | .int _ => "int"
  | .str _ => "str"
  | .lst _ => "list"
  | .tup _ => "tuple"
  | .dct => "dict"
theorem At.ty {K : PySem.W.Frag} {H : Hp} : ∀ {d : Th} {v : V}, At H d v → TyX K H v (.type d.ty)
  | .non, _, h => by rw [show _ = V.non from h]; exact .base .non
  | .bl b, _, h => by rw [show _ = V.bl b from h]; exact .base (.bl b)
  | .int b, _, h => by rw [show _ = V.int b from h]; exact .base (.int b)
  | .str b, _, h => by rw [show _ = V.str b from h]; exact .base (.str b)
  | .lst _, _, ⟨a, ys, e, h, _⟩ => by rw [e]; exact .base (.lst h)
  | .tup _, _, ⟨a, ys, e, h, _⟩ => by rw [e]; exact .base (.tup h)
  | .dct, _, ⟨a, e, h⟩ => by rw [e]; exact .base (.dK h)
def Th.isI : Th → Bool
  | .int _ => true
  | .bl _ => true
  | _ => false
def Th.isB : Th → Bool
  | .bl _ => true
  | _ => false
def Th.isS : Th → Bool
  | .str _ => true
  | _ => false
def Th.isL : Th → Bool
  | .lst _ => true
  | _ => false
def Th.isT : Th → Bool
  | .tup _ => true
  | _ => false
theorem kitI (K : PySem.W.Frag) (d : Th) : PySem.W.kitOne K (.type d.ty) (.type "int") = some d.isI := kit_ty (by cases d <;> dsimp only [Th.ty, Th.isI] <;> decide +kernel)
theorem kitB' (K : PySem.W.Frag) (d : Th) : PySem.W.kitOne K (.type d.ty) (.type "bool") = some d.isB := kit_ty (by cases d <;> dsimp only [Th.ty, Th.isB] <;> decide +kernel)
theorem kitS (K : PySem.W.Frag) (d : Th) : PySem.W.kitOne K (.type d.ty) (.type "str") = some d.isS := kit_ty (by cases d <;> dsimp only [Th.ty, Th.isS] <;> decide +kernel)
theorem kitL (K : PySem.W.Frag) (d : Th) : PySem.W.kitOne K (.type d.ty) (.type "list") = some d.isL := kit_ty (by cases d <;> dsimp only [Th.ty, Th.isL] <;> decide +kernel)
theorem kitT (K : PySem.W.Frag) (d : Th) : PySem.W.kitOne K (.type d.ty) (.type "tuple") = some d.isT := kit_ty (by cases d <;> dsimp only [Th.ty, Th.isT] <;> decide +kernel)
/-! ### what is never reached -/
theorem pss_no {X : Cx} {ss : List Stmt} : PSs X ss (fun _ _ _ => False) := ⟨fun _ _ _ _ _ _ h => h.elim⟩
theorem pe_no {X : Cx} {e : Expr} : PE X e (fun _ _ _ => False) := ⟨fun _ _ _ _ _ _ h => h.elim⟩
/-! ### how it is made -/
/-- only new objects -/
def Nw (H H' : Hp) : Prop := ∀ b u, H b = some u → H' b = some u
theorem Nw.refl (H : Hp) : Nw H H := fun _ _ h => h
theorem Nw.trans {H H1 H2 : Hp} (a : Nw H H1) (b : Nw H1 H2) : Nw H H2 := fun c u h => b c u (a c u h)
theorem Nw.new {H : Hp} {p : Addr} {u : HO} (h : H p = none) : Nw H (upd H p u) := fun b v e => by
  rw [upd_ne (ne_of_none e h)]
  exact e
theorem Nw.mut {H H' : Hp} {p : Addr} {u : HO} (n : Nw H H') (h : H p = none) : Nw H (upd H' p u) := fun b v e => by
  rw [upd_ne (ne_of_none e h)]
  exact n b v e
theorem Nw.kx {H H' : Hp} (n : Nw H H') : Kx H H' := ⟨fun b u h _ => n b u h, fun P ⟨ps, e, t⟩ => ⟨ps, n P _ e, t⟩, fun b e => by
  cases z : H b with
  | none => rfl
  | some u => rw [n b u z] at e; cases e⟩
/-- the heap without these addresses -/
def wo (S : List Addr) (H : Hp) : Hp := fun b => if b ∈ S then none else H b
theorem wo_sub {S : List Addr} {H : Hp} : Sub (wo S H) H := fun b u e _ => by
  unfold wo at e
  split at e
  · cases e
  · exact e
theorem wo_nw {S : List Addr} {H H' : Hp} (n : Nw H H') : Sub (wo S H) (wo S H') := fun b u e _ => by
  unfold wo at e ⊢
  split at e
  · cases e
  · rw [if_neg ‹_›]
    exact n b u e
theorem wo_k {S : List Addr} {H H' : Hp} (n : Kx H H') : Sub (wo S H) (wo S H') := fun b u e x => by
  unfold wo at e ⊢
  split at e
  · cases e
  · rw [if_neg ‹_›]
    exact n.o b u e x
theorem wo_at {S : List Addr} {H : Hp} {p : Addr} {u : HO} (np : H p = none) (hS : ∀ b ∈ S, H b ≠ none) : wo S (upd H p u) p = some u := by
  unfold wo
  rw [if_neg fun z => hS p z np, upd_same]
theorem wo_upd {S : List Addr} {H : Hp} {p : Addr} {u : HO} (hp : p ∈ S) : wo S (upd H p u) = wo S H := by
  funext b
  unfold wo
  split
  · rfl
  · rw [upd_ne fun z => ‹¬ b ∈ S› (by rw [z]; exact hp)]
theorem wo_nil {H : Hp} : wo [] H = H := by
  funext b
  unfold wo
  rw [if_neg List.not_mem_nil]
/-- the term makes this thing; Γ: what is there already -/
def Ma (S : List Addr) (Γ : List (V × Th)) (t : TE) (σ : L2.St) (d : Th) : Prop := ∀ (H : Hp) (Q : VK), (∀ q ∈ Γ, At (wo S H) q.2 q.1) → (∀ b ∈ S, H b ≠ none) → (∀ v H', Nw H H' → At (wo S H') d v → Q v H') → t σ H Q
def Mas (S : List Addr) (Γ : List (V × Th)) (t : TA) (σ : L2.St) (ds : List Th) : Prop := ∀ (H : Hp) (Q : List V → Hp → Prop), (∀ q ∈ Γ, At (wo S H) q.2 q.1) → (∀ b ∈ S, H b ≠ none) → (∀ vs H', Nw H H' → Ats (wo S H') ds vs → Q vs H') → t σ H Q
section
variable {S : List Addr} {Γ : List (V × Th)} {σ : L2.St}
theorem nwS {H H' : Hp} (n : Nw H H') (h : ∀ b ∈ S, H b ≠ none) : ∀ b ∈ S, H' b ≠ none := fun b m e => h b m (n.kx.f b e)
theorem ma_use {t : TE} {d : Th} {H : Hp} {Q : VK} (a : Ma S Γ t σ d) (g : ∀ q ∈ Γ, At (wo S H) q.2 q.1) (s : ∀ b ∈ S, H b ≠ none) (q : ∀ v H', Nw H H' → At (wo S H') d v → Q v H') : t σ H Q := a H Q g s q
theorem cons_ma {t : TE} {ts : TA} {d : Th} {H : Hp} {Q : List V → Hp → Prop} (a : Ma S Γ t σ d) (g : ∀ q ∈ Γ, At (wo S H) q.2 q.1) (s : ∀ b ∈ S, H b ≠ none) (q : ∀ v H', Nw H H' → At (wo S H') d v → ts σ H' fun xs H2 => Q (v :: xs) H2) : tCons t ts σ H Q := a H _ g s q
theorem mk_non : Ma S Γ (tC .non) σ .non := fun H Q _ _ q => q _ H (Nw.refl H) rfl
theorem mk_bl {b : Bool} : Ma S Γ (tC (.bl b)) σ (.bl b) := fun H Q _ _ q => q _ H (Nw.refl H) rfl
theorem mk_int {i : Int} : Ma S Γ (tC (.int i)) σ (.int i) := fun H Q _ _ q => q _ H (Nw.refl H) rfl
theorem mk_str {s : Str} : Ma S Γ (tC (.str s)) σ (.str s) := fun H Q _ _ q => q _ H (Nw.refl H) rfl
theorem mk_neg {i : Int} : Ma S Γ (tUn (rU fun i => V.int (-i)) (tC (.int i))) σ (.int (-i)) := fun H Q _ _ q => ⟨i, rfl, q _ H (Nw.refl H) rfl⟩
theorem mk_var {j : Nat} {v : V} {d : Th} (h : σ[j]? = some (some v)) (m : (v, d) ∈ Γ) : Ma S Γ (tVar j) σ d := fun H Q g _ q => ⟨v, h, q v H (Nw.refl H) (g _ m)⟩
theorem mk_varI {j : Nat} {i : Int} (h : σ[j]? = some (some (.int i))) : Ma S Γ (tVar j) σ (.int i) := fun H Q g _ q => ⟨_, h, q _ H (Nw.refl H) rfl⟩
theorem mk_add {ta tb : TE} {i j : Int} (a : Ma S Γ ta σ (.int i)) (b : Ma S Γ tb σ (.int j)) : Ma S Γ (tOp (rI0 fun i j => V.int (i + j)) ta tb) σ (.int (i + j)) := fun H Q g s q =>
  a H _ g s fun v H1 n1 e1 => b H1 _ (fun x hx => (g x hx).mono (wo_nw n1)) (nwS n1 s) fun u H2 n2 e2 => ⟨i, j, e1, e2, q _ H2 (n1.trans n2) rfl⟩
theorem mk_sub {ta tb : TE} {i j : Int} (a : Ma S Γ ta σ (.int i)) (b : Ma S Γ tb σ (.int j)) : Ma S Γ (tOp (rI0 fun i j => V.int (i - j)) ta tb) σ (.int (i - j)) := fun H Q g s q =>
  a H _ g s fun v H1 n1 e1 => b H1 _ (fun x hx => (g x hx).mono (wo_nw n1)) (nwS n1 s) fun u H2 n2 e2 => ⟨i, j, e1, e2, q _ H2 (n1.trans n2) rfl⟩
theorem mk_dct : Ma S Γ tDNewK σ .dct := fun H Q _ s q p np => q _ _ (Nw.new np) ⟨p, rfl, wo_at np s⟩
theorem mks_nil : Mas S Γ tNil σ [] := fun H Q _ _ q => q _ H (Nw.refl H) rfl
theorem mks_cons {t : TE} {ts : TA} {d : Th} {ds : List Th} (a : Ma S Γ t σ d) (b : Mas S Γ ts σ ds) : Mas S Γ (tCons t ts) σ (d :: ds) := fun H Q g s q =>
  a H _ g s fun v H1 n1 e1 => b H1 _ (fun x hx => (g x hx).mono (wo_nw n1)) (nwS n1 s) fun vs H2 n2 e2 => q _ H2 (n1.trans n2) ⟨v, vs, rfl, e1.mono (wo_nw n2), e2⟩
theorem mk_tup {ts : TA} {ds : List Th} (a : Mas S Γ ts σ ds) (l : ds.length ≤ 1000) : Ma S Γ (tTup ts) σ (.tup ds) := fun H Q g s q =>
  a H _ g s fun vs H1 n1 e1 => ⟨small80 (by rw [e1.len]; exact Nat.le_trans l (by decide)), fun p np => q _ _ (n1.trans (Nw.new np)) ⟨p, vs, rfl, wo_at np (nwS n1 s), e1.mono (wo_nw (Nw.new np))⟩⟩
theorem mk_lst {ts : TA} {ds : List Th} (a : Mas S Γ ts σ ds) (l : ds.length ≤ 1000) : Ma S Γ (tLst ts) σ (.lst ds) := fun H Q g s q =>
  a H _ g s fun vs H1 n1 e1 => ⟨small80 (by rw [e1.len]; exact Nat.le_trans l (by decide)), fun p np => q _ _ (n1.trans (Nw.new np)) ⟨p, vs, rfl, wo_at np (nwS n1 s), e1.mono (wo_nw (Nw.new np))⟩⟩
theorem at_lst {H : Hp} {ds : List Th} {v : V} (h : At (wo S H) (.lst ds) v) : ∃ (a : Addr) (ys : List V), v = .ref a ∧ H a = some (.lst ys) ∧ Ats (wo S H) ds ys := by
  obtain ⟨a, ys, e, h, t⟩ := h
  exact ⟨a, ys, e, wo_sub a _ h fun ps z => (by cases z), t⟩
theorem at_tup {H : Hp} {ds : List Th} {v : V} (h : At (wo S H) (.tup ds) v) : ∃ (a : Addr) (ys : List V), v = .ref a ∧ H a = some (.tup ys) ∧ Ats (wo S H) ds ys := by
  obtain ⟨a, ys, e, h, t⟩ := h
  exact ⟨a, ys, e, wo_sub a _ h fun ps z => (by cases z), t⟩
theorem flat_len {α : Type} (n : Nat) (xs : List α) : (List.replicate n xs).flatten.length = xs.length * n := by
  induction n with
  | zero => rfl
  | succ n ih => rw [List.replicate_succ, List.flatten_cons, List.length_append, ih, Nat.mul_succ, Nat.add_comm]
theorem mk_rep {t : TE} {ds : List Th} {n : Nat} (a : Ma S Γ t σ (.lst ds)) (l : ds.length * n ≤ 1000) (ln : n ≤ 1000) : Ma S Γ (tOp rRep t (tC (.int (n : Int)))) σ (.lst (List.replicate n ds).flatten) := fun H Q g s q =>
  a H _ g s fun v H1 n1 e1 => by
    obtain ⟨b, ys, rfl, hb, hy⟩ := at_lst e1
    refine ⟨b, (n : Int), ys, rfl, rfl, hb, by omega, by omega, ?_, fun p np => ?_⟩
    · rw [Int.toNat_natCast, hy.len]
      exact small80 (by omega)
    · rw [Int.toNat_natCast]
      exact q _ _ (n1.trans (Nw.new np)) ⟨p, _, rfl, wo_at np (nwS n1 s), (hy.rep n).mono (wo_nw (Nw.new np))⟩
theorem mk_cat {ta tb : TE} {ds es : List Th} (a : Ma S Γ ta σ (.lst ds)) (b : Ma S Γ tb σ (.lst es)) (l : ds.length + es.length ≤ 10000) : Ma S Γ (tOp rCat ta tb) σ (.lst (ds ++ es)) := fun H Q g s q =>
  a H _ g s fun v H1 n1 e1 => b H1 _ (fun x hx => (g x hx).mono (wo_nw n1)) (nwS n1 s) fun u H2 n2 e2 => by
    obtain ⟨x, xs, rfl, hx, tx⟩ := at_lst (e1.mono (wo_nw n2))
    obtain ⟨y, ys, rfl, hy, ty⟩ := at_lst e2
    refine ⟨x, y, xs, ys, rfl, rfl, hx, hy, by rw [tx.len, ty.len]; exact small80 (by omega), fun p np => ?_⟩
    have n12 := n1.trans n2
    exact q _ _ (n12.trans (Nw.new np)) ⟨p, _, rfl, wo_at np (nwS n12 s), (tx.app ty).mono (wo_nw (Nw.new np))⟩
theorem mk_list {K : PySem.W.Frag} {t : TE} {ds : List Th} (a : Ma S Γ t σ (.tup ds)) : Ma S Γ (tCB (fun xs H Q => ∃ p ys, xs = [V.ref p] ∧ (SqL K H p ys ∨ SqT K H p ys) ∧ ∀ (l : Addr), H l = none → Q (V.ref l) (upd H l (HO.lst ys))) (tCons t tNil)) σ (.lst ds) := fun H Q g s q =>
  a H _ g s fun v H1 n1 e1 => by
    obtain ⟨b, ys, rfl, hb, hy⟩ := at_tup e1
    exact ⟨b, ys, rfl, .inr (st_of hb), fun p np => q _ _ (n1.trans (Nw.new np)) ⟨p, _, rfl, wo_at np (nwS n1 s), hy.mono (wo_nw (Nw.new np))⟩⟩
theorem mk_take {K : PySem.W.Frag} {t : TE} {ds : List Th} {n : Nat} (a : Ma S Γ t σ (.tup ds)) (l : n < ds.length) : Ma S Γ (tSl (rSlT K) t tNoPart (tPart (tC (.int (n : Int))))) σ (.tup (ds.take n)) := fun H Q g s q =>
  a H _ g s fun v H1 n1 e1 => by
    obtain ⟨b, ys, rfl, hb, hy⟩ := at_tup e1
    have ly := hy.len
    refine ⟨(n : Int), rfl, b, ys, rfl, st_of hb, fun z => ?_, fun p np => ?_⟩
    · have this : (if (n : Int) < 0 then ((n : Int) + (ys.length : Int)).toNat else min (n : Int).toNat ys.length) = ys.length := z.2
      rw [if_neg (by omega)] at this
      have e : ((n : Int).toNat) = n := Int.toNat_natCast n
      omega
    · rw [show cutV ys none (some (n : Int)) = ys.take n from cutV_take]
      exact q _ _ (n1.trans (Nw.new np)) ⟨p, _, rfl, wo_at np (nwS n1 s), (hy.take n).mono (wo_nw (Nw.new np))⟩
theorem mk_catT {K : PySem.W.Frag} {ta tb : TE} {ds es : List Th} (a : Ma S Γ ta σ (.tup ds)) (b : Ma S Γ tb σ (.tup es)) (l : ds.length + es.length ≤ 10000) (n1 : ds ≠ []) (n2 : es ≠ []) : Ma S Γ (tOp (rCatT K) ta tb) σ (.tup (ds ++ es)) := fun H Q g s q =>
  a H _ g s fun v H1 n1' e1 => b H1 _ (fun x hx => (g x hx).mono (wo_nw n1')) (nwS n1' s) fun u H2 n2' e2 => by
    obtain ⟨x, xs, rfl, hx, tx⟩ := at_tup (e1.mono (wo_nw n2'))
    obtain ⟨y, ys, rfl, hy, ty⟩ := at_tup e2
    have n12 := n1'.trans n2'
    have lx := tx.len
    have ly := ty.len
    refine ⟨x, y, xs, ys, rfl, rfl, st_of hx, st_of hy, fun z => ?_, by rw [lx, ly]; exact small80 (by omega), fun z => ?_, fun _ p np => ?_⟩
    · rw [z] at lx
      exact n1 (List.length_eq_zero_iff.mp lx.symm)
    · rw [z] at ly
      exact absurd (List.length_eq_zero_iff.mp ly.symm) n2
    · exact q _ _ (n12.trans (Nw.new np)) ⟨p, _, rfl, wo_at np (nwS n12 s), (tx.app ty).mono (wo_nw (Nw.new np))⟩
end
end CH
end

section
set_option Elab.async false
set_option linter.all false
set_option maxRecDepth 100000
set_option maxHeartbeats 4000000
/-! which things are words, meetings, hours -/
namespace CH
open PySem PySem.Spec PyProof.Rows L2
def numB : Th → Int → Int → Bool
  | .int v, lo, hi => decide (lo ≤ v ∧ v ≤ hi)
  | _, _, _ => false
def wholeB : Th → Bool
  | .int _ => true
  | _ => false
def ansB : Th → Bool
  | .str s => decide (s ∈ ansL)
  | _ => false
def handB (d : Th) : Bool := numB d 0 3
def personB (d : Th) : Bool := numB d 0 7
def hourB (d : Th) : Bool := numB d 0 11
def wordB : Th → Bool
  | .tup [c, h, p, o, a] => numB c 1 99 && (handB h && (personB p && (hourB o && ansB a)))
  | _ => false
def wordsB : Th → Bool
  | .lst ds => decide (ds.length ≤ 80) && ds.all wordB
  | _ => false
def riseB : Int → List Th → Bool
  | _, [] => true
  | b, .int v :: ds => decide (b + 1 ≤ v ∧ v ≤ 7) && riseB v ds
  | _, _ :: _ => false
def peopleB : Th → Bool
  | .tup ds => riseB (-1) ds
  | _ => false
def intT : Th → Int
  | .int v => v
  | _ => 0
def Th.items : Th → List Th
  | .tup ds => ds
  | .lst ds => ds
  | _ => []
def meetB : Th → Bool
  | .tup [p, e, n] => peopleB p && (numB e 1 (p.items.length : Nat) && (peopleB n && (n.items.map intT).all fun x => decide (x ∈ p.items.map intT)))
  | _ => false
def meetsB : Th → Bool
  | .lst ds => decide (ds.length ≤ 6) && ds.all meetB
  | _ => false
def oldB : Th → Bool
  | .non => true
  | d => hourB d
def oldsB (many : Nat) : Th → Bool
  | .lst ds => decide (ds.length = many) && ds.all oldB
  | _ => false
theorem neI {a b : Int} (h : a ≠ b) : (!decide (V.int a = V.int b)) = true := by
  rw [decide_eq_false fun z => h (V.int.inj z)]
  rfl
theorem eqI {a b : Int} (h : a = b) : (!decide (V.int a = V.int b)) = false := by
  rw [h, decide_eq_true rfl]
  rfl
theorem wholeB_eq (d : Th) : wholeB d = (d.isI && !d.isB) := by cases d <;> rfl
theorem wholeB_int {d : Th} (h : wholeB d = true) : ∃ v, d = .int v := by
  cases d with
  | int v => exact ⟨v, rfl⟩
  | _ => cases h
theorem numB_not {d : Th} {lo hi : Int} (h : wholeB d = false) : numB d lo hi = false := by
  cases d with
  | int v => cases h
  | _ => rfl
theorem ansB_not {d : Th} (h : d.isS = false) : ansB d = false := by
  cases d with
  | str v => cases h
  | _ => rfl
theorem isS_str {d : Th} (h : d.isS = true) : ∃ s, d = .str s := by
  cases d with
  | str v => exact ⟨v, rfl⟩
  | _ => cases h
theorem isL_lst {d : Th} (h : d.isL = true) : ∃ s, d = .lst s := by
  cases d with
  | lst v => exact ⟨v, rfl⟩
  | _ => cases h
theorem isT_tup {d : Th} (h : d.isT = true) : ∃ s, d = .tup s := by
  cases d with
  | tup v => exact ⟨v, rfl⟩
  | _ => cases h
theorem wordsB_not {d : Th} (h : d.isL = false) : wordsB d = false := by
  cases d with
  | lst v => cases h
  | _ => rfl
theorem meetsB_not {d : Th} (h : d.isL = false) : meetsB d = false := by
  cases d with
  | lst v => cases h
  | _ => rfl
theorem oldsB_not {m : Nat} {d : Th} (h : d.isL = false) : oldsB m d = false := by
  cases d with
  | lst v => cases h
  | _ => rfl
theorem peopleB_not {d : Th} (h : d.isT = false) : peopleB d = false := by
  cases d with
  | tup v => cases h
  | _ => rfl
theorem wordB_not {d : Th} (h : d.isT = false) : wordB d = false := by
  cases d with
  | tup v => cases h
  | _ => rfl
theorem meetB_not {d : Th} (h : d.isT = false) : meetB d = false := by
  cases d with
  | tup v => cases h
  | _ => rfl
theorem wordB_len {ds : List Th} (h : ds.length ≠ 5) : wordB (.tup ds) = false := by
  match ds, h with
  | [], _ => rfl
  | [_], _ => rfl
  | [_, _], _ => rfl
  | [_, _, _], _ => rfl
  | [_, _, _, _], _ => rfl
  | [_, _, _, _, _], h => exact absurd rfl h
  | _ :: _ :: _ :: _ :: _ :: _ :: _, _ => rfl
theorem meetB_len {ds : List Th} (h : ds.length ≠ 3) : meetB (.tup ds) = false := by
  match ds, h with
  | [], _ => rfl
  | [_], _ => rfl
  | [_, _], _ => rfl
  | [_, _, _], h => exact absurd rfl h
  | _ :: _ :: _ :: _ :: _, _ => rfl
theorem meetB_p {d e f : Th} (h : peopleB d = false) : meetB (.tup [d, e, f]) = false := by
  show (peopleB d && _) = false
  rw [h, Bool.false_and]
theorem meetB_n {d e f : Th} (h : peopleB f = false) : meetB (.tup [d, e, f]) = false := by
  show (peopleB d && (_ && (peopleB f && _))) = false
  rw [h, Bool.false_and, Bool.and_false, Bool.and_false]
theorem rise_ints : ∀ {ds : List Th} {b : Int}, riseB b ds = true → ds = (ds.map intT).map Th.int
  | [], _, _ => rfl
  | .int v :: ds, b, h => by
    have h2 : riseB v ds = true := (Bool.and_eq_true _ _ ▸ h : _ ∧ _).2
    rw [List.map_cons, List.map_cons, ← rise_ints h2] <;> rfl
theorem rise_take {v : Th} : ∀ {ds : List Th} {b : Int} {i : Nat}, riseB b (ds.take (i + 1)) = false → riseB b ds = false
  | [], b, i, h => by cases h
  | .int v :: ds, b, 0, h => by
    have h : (decide (b + 1 ≤ v ∧ v ≤ 7) && true) = false := h
    rw [Bool.and_true] at h
    show (decide (b + 1 ≤ v ∧ v ≤ 7) && _) = false
    rw [h, Bool.false_and]
  | .int v :: ds, b, i + 1, h => by
    have h : (decide (b + 1 ≤ v ∧ v ≤ 7) && riseB v (ds.take (i + 1))) = false := h
    show (decide (b + 1 ≤ v ∧ v ≤ 7) && riseB v ds) = false
    cases hd : decide (b + 1 ≤ v ∧ v ≤ 7) with
    | false => rfl
    | true =>
      rw [hd, Bool.true_and] at h
      rw [Bool.true_and, rise_take (v := .non) h]
  | .non :: _, _, _, _ => rfl
  | .bl _ :: _, _, _, _ => rfl
  | .str _ :: _, _, _, _ => rfl
  | .lst _ :: _, _, _, _ => rfl
  | .tup _ :: _, _, _, _ => rfl
  | .dct :: _, _, _, _ => rfl
/-- one more: the last one's number, or -1 -/
def lastI (b : Int) : List Th → Int
  | [] => b
  | .int v :: ds => lastI v ds
  | _ :: ds => lastI b ds
theorem rise_snoc : ∀ {ds : List Th} {b : Int} {d : Th}, riseB b (ds ++ [d]) = (riseB b ds && numB d (lastI b ds + 1) 7)
  | [], b, d => by
    cases d with
    | int v => show (decide (b + 1 ≤ v ∧ v ≤ 7) && true) = (true && decide (b + 1 ≤ v ∧ v ≤ 7)); rw [Bool.and_true, Bool.true_and]
    | _ => rfl
  | .int v :: ds, b, d => by
    show (decide (b + 1 ≤ v ∧ v ≤ 7) && riseB v (ds ++ [d])) = ((decide (b + 1 ≤ v ∧ v ≤ 7) && riseB v ds) && numB d (lastI v ds + 1) 7)
    rw [rise_snoc, Bool.and_assoc]
  | .non :: _, _, _ => rfl
  | .bl _ :: _, _, _ => rfl
  | .str _ :: _, _, _ => rfl
  | .lst _ :: _, _, _ => rfl
  | .tup _ :: _, _, _ => rfl
  | .dct :: _, _, _ => rfl
theorem lastI_snoc : ∀ {ds : List Th} {b v : Int}, lastI b (ds ++ [.int v]) = v
  | [], b, v => rfl
  | d :: ds, b, v => by
    cases d <;> exact lastI_snoc (ds := ds)
theorem rise_pre {ds es : List Th} {b : Int} (h : riseB b ds = false) : riseB b (ds ++ es) = false := by
  induction ds generalizing b with
  | nil => cases h
  | cons d ds ih =>
    cases d with
    | int v =>
      have h : (decide (b + 1 ≤ v ∧ v ≤ 7) && riseB v ds) = false := h
      show (decide (b + 1 ≤ v ∧ v ≤ 7) && riseB v (ds ++ es)) = false
      cases hd : decide (b + 1 ≤ v ∧ v ≤ 7) with
      | false => rfl
      | true =>
        rw [hd, Bool.true_and] at h
        rw [Bool.true_and]
        exact ih h
    | _ => rfl
/-! ### words -/
def Wd.th (x : Wd) : Th := .tup [.int x.c, .int x.h, .int x.p, .int x.o, .str x.a]
theorem numB_int {d : Th} {lo hi : Int} (h : numB d lo hi = true) : ∃ v, d = .int v ∧ lo ≤ v ∧ v ≤ hi := by
  cases d with
  | int v => exact ⟨v, rfl, of_decide_eq_true h⟩
  | _ => cases h
theorem ansB_str {d : Th} (h : ansB d = true) : ∃ s, d = .str s ∧ s ∈ ansL := by
  cases d with
  | str v => exact ⟨v, rfl, of_decide_eq_true h⟩
  | _ => cases h
theorem wordB_five {d : Th} (h : wordB d = true) : ∃ c e p o a, d = .tup [c, e, p, o, a] := by
  cases hT : d.isT with
  | false =>
    rw [wordB_not hT] at h
    cases h
  | true =>
    obtain ⟨ds, rfl⟩ := isT_tup hT
    by_cases l : ds.length = 5
    · match ds, l with
      | [c, e, p, o, a], _ => exact ⟨c, e, p, o, a, rfl⟩
    · rw [wordB_len l] at h
      cases h
theorem wordB_wd {d : Th} (h : wordB d = true) : ∃ x : Wd, d = x.th ∧ x.ok := by
  obtain ⟨c, e, p, o, a, rfl⟩ := wordB_five h
  have h : (numB c 1 99 && (handB e && (personB p && (hourB o && ansB a)))) = true := h
  simp only [Bool.and_eq_true] at h
  obtain ⟨h1, h2, h3, h4, h5⟩ := h
  obtain ⟨c, rfl, c1, c2⟩ := numB_int h1
  obtain ⟨e, rfl, e1, e2⟩ := numB_int (lo := 0) (hi := 3) h2
  obtain ⟨p, rfl, p1, p2⟩ := numB_int (lo := 0) (hi := 7) h3
  obtain ⟨o, rfl, o1, o2⟩ := numB_int (lo := 0) (hi := 11) h4
  obtain ⟨a, rfl, a1⟩ := ansB_str h5
  exact ⟨⟨c, e, p, o, a⟩, rfl, c1, c2, e1, e2, p1, p2, o1, o2, a1⟩
theorem ats_wd {H : Hp} {x : Wd} {v : V} (h : At H x.th v) : ∃ t : Addr, v = .ref t ∧ H t = some (.tup x.V) := by
  obtain ⟨a, ys, e, h, v1, vs1, rfl, e1, v2, vs2, rfl, e2, v3, vs3, rfl, e3, v4, vs4, rfl, e4, v5, vs5, rfl, e5, rfl⟩ := h
  refine ⟨a, e, ?_⟩
  rw [h, show v1 = _ from e1, show v2 = _ from e2, show v3 = _ from e3, show v4 = _ from e4, show v5 = _ from e5] <;> rfl
theorem ats_wds {K : PySem.W.Frag} {H : Hp} : ∀ {ws : List Wd} {ys : List V}, Ats H (ws.map Wd.th) ys → ∃ ts : List Addr, ys = ts.map V.ref ∧ Paired (fun t (x : Wd) => SqT K H t x.V) ts ws ∧ TAt H ts ws
  | [], _, h => ⟨[], h, .nil, .nil⟩
  | x :: ws, _, ⟨v, vs, e, a, t⟩ => by
    obtain ⟨q, rfl, hq⟩ := ats_wd a
    obtain ⟨ts, rfl, p, pt⟩ := ats_wds t
    exact ⟨q :: ts, e, .cons (st_of hq) p, .cons hq pt⟩
theorem at_words {K : PySem.W.Frag} {H : Hp} {ws : List Wd} {v : V} (h : At H (.lst (ws.map Wd.th)) v) : ∃ l : Addr, v = .ref l ∧ WsAt K H l ws := by
  obtain ⟨l, ys, e, hl, t⟩ := h
  obtain ⟨ts, rfl, p, _⟩ := ats_wds (K := K) t
  exact ⟨l, e, ts, sq_of hl, p⟩
/-- what is refused where words are asked for: the class -/
inductive WBad (cB cU : Addr) : Th → Addr → Prop
  | bad {d : Th} (h : wordsB d = false) : WBad cB cU d cB
  | unlike {ws : List Wd} (l : ws.length ≤ 80) (ok : ∀ x ∈ ws, x.ok) (n : ¬ Alike ws) : WBad cB cU (.lst (ws.map Wd.th)) cU
end CH
end

section
set_option Elab.async false
set_option linter.all false
set_option maxRecDepth 100000
set_option maxHeartbeats 4000000
/-! lists of things: made, and made longer -/
namespace CH
open PySem PySem.Spec PyProof.Rows L2
section
variable {S : List Addr} {Γ : List (V × Th)} {σ : L2.St}
theorem wo_cons {p : Addr} {H : Hp} {b : Addr} {u : HO} (h : wo S H b = some u) (n : b ≠ p) : wo (p :: S) H b = some u := by
  unfold wo at h ⊢
  split at h
  · cases h
  · rename_i hb
    rw [if_neg fun z => (List.mem_cons.mp z).elim n hb]
    exact h
theorem wo_new {p : Addr} {H : Hp} {u : HO} (np : H p = none) : Sub (wo S H) (wo (p :: S) (upd H p u)) := fun b v e _ => by
  have e2 : H b = some v := by
    unfold wo at e
    split at e
    · cases e
    · exact e
  have n : b ≠ p := ne_of_none e2 np
  refine wo_cons ?_ n
  unfold wo at e ⊢
  split at e
  · cases e
  · rw [if_neg ‹_›, upd_ne n]
    exact e
/-- a list of one's own: nothing in it is the list itself -/
def Own1 (S : List Addr) (H : Hp) (p : Addr) (ds : List Th) : Prop := ∃ ys : List V, H p = some (.lst ys) ∧ Ats (wo (p :: S) H) ds ys
theorem Own1.at {H : Hp} {p : Addr} {ds : List Th} (o : Own1 S H p ds) : At H (.lst ds) (.ref p) := by
  obtain ⟨ys, h, a⟩ := o
  exact ⟨p, ys, rfl, h, a.mono wo_sub⟩
theorem Own1.nw {H H' : Hp} {p : Addr} {ds : List Th} (n : Nw H H') (o : Own1 S H p ds) : Own1 S H' p ds := by
  obtain ⟨ys, h, a⟩ := o
  exact ⟨ys, n p _ h, a.mono (wo_nw n)⟩
theorem Own1.k {H H' : Hp} {p : Addr} {ds : List Th} (n : Kx H H') (o : Own1 S H p ds) : Own1 S H' p ds := by
  obtain ⟨ys, h, a⟩ := o
  exact ⟨ys, n.lst h, a.mono (wo_k n)⟩
theorem Own1.up {H : Hp} {p : Addr} {ds es : List Th} {ys zs : List V} (hp : H p = some (.lst ys)) (a : Ats (wo (p :: S) H) ds ys) (b : Ats (wo (p :: S) H) es zs) : Own1 S (upd H p (.lst (ys ++ zs))) p (ds ++ es) :=
  ⟨ys ++ zs, upd_same, by rw [wo_upd List.mem_cons_self]; exact a.app b⟩
theorem lst_own {ts : TA} {ds : List Th} (a : Mas S Γ ts σ ds) (l : ds.length ≤ 1000) {H : Hp} {Q : VK} (g : ∀ q ∈ Γ, At (wo S H) q.2 q.1) (s : ∀ b ∈ S, H b ≠ none) (q : ∀ p H', Nw H H' → H p = none → Own1 S H' p ds → Q (.ref p) H') : tLst ts σ H Q :=
  a H _ g s fun vs H1 n1 e1 => ⟨small80 (by rw [e1.len]; exact Nat.le_trans l (by decide)), fun p np => q p _ (n1.trans (Nw.new np)) (n1.kx.f p np) ⟨vs, upd_same, e1.mono (wo_new np)⟩⟩
theorem cat_own {ta tb : TE} {ds es : List Th} (a : Ma S Γ ta σ (.lst ds)) (b : Ma S Γ tb σ (.lst es)) (l : ds.length + es.length ≤ 10000) {H : Hp} {Q : VK} (g : ∀ q ∈ Γ, At (wo S H) q.2 q.1) (s : ∀ b ∈ S, H b ≠ none) (q : ∀ p H', Nw H H' → H p = none → Own1 S H' p (ds ++ es) → Q (.ref p) H') : tOp rCat ta tb σ H Q :=
  a H _ g s fun v H1 n1 e1 => b H1 _ (fun x hx => (g x hx).mono (wo_nw n1)) (nwS n1 s) fun u H2 n2 e2 => by
    obtain ⟨x, xs, rfl, hx, tx⟩ := at_lst (e1.mono (wo_nw n2))
    obtain ⟨y, ys, rfl, hy, ty⟩ := at_lst e2
    refine ⟨x, y, xs, ys, rfl, rfl, hx, hy, by rw [tx.len, ty.len]; exact small80 (by omega), fun p np => ?_⟩
    have n12 := n1.trans n2
    exact q p _ (n12.trans (Nw.new np)) (n12.kx.f p np) ⟨_, upd_same, (tx.app ty).mono (wo_new np)⟩
/-- p.append(t), p.extend(t): its reading behind p's -/
theorem app_own {t : TE} {d : Th} {ds : List Th} {p : Addr} {H : Hp} {Q : VK} (a : Ma (p :: S) Γ t σ d) (o : Own1 S H p ds) (l : ds.length ≤ 10000) (g : ∀ q ∈ Γ, At (wo (p :: S) H) q.2 q.1) (s : ∀ b ∈ S, H b ≠ none)
    (q : ∀ H' H'' ys, Nw H H' → H'' = upd H' p (.lst ys) → wo (p :: S) H'' = wo (p :: S) H' → Own1 S H'' p (ds ++ [d]) → Q .non H'') : (tCons t tNil) σ H fun vs H1 => rAppend (.ref p) vs H1 Q := by
  obtain ⟨ys, hp, hy⟩ := o
  refine a H _ g (fun b hb => (List.mem_cons.mp hb).elim (fun e => by rw [e, hp]; exact fun z => nomatch z) (s b)) fun v H1 n1 e1 => ?_
  refine ⟨p, ys, v, rfl, rfl, n1 p _ hp, lt80 (by rw [hy.len]; omega), ?_⟩
  exact q H1 _ _ n1 rfl (wo_upd List.mem_cons_self) (Own1.up (n1 p _ hp) (hy.mono (wo_nw n1)) (Ats.one e1))
theorem ext_own {t : TE} {es ds : List Th} {p : Addr} {H : Hp} {Q : VK} (a : Ma (p :: S) Γ t σ (.lst es)) (o : Own1 S H p ds) (l : ds.length + es.length ≤ 10000) (g : ∀ q ∈ Γ, At (wo (p :: S) H) q.2 q.1) (s : ∀ b ∈ S, H b ≠ none)
    (q : ∀ H' H'' ys, Nw H H' → H'' = upd H' p (.lst ys) → wo (p :: S) H'' = wo (p :: S) H' → Own1 S H'' p (ds ++ es) → Q .non H'') : (tCons t tNil) σ H fun vs H1 => rExtend (.ref p) vs H1 Q := by
  obtain ⟨ys, hp, hy⟩ := o
  refine a H _ g (fun b hb => (List.mem_cons.mp hb).elim (fun e => by rw [e, hp]; exact fun z => nomatch z) (s b)) fun v H1 n1 e1 => ?_
  obtain ⟨b, zs, rfl, hb, hz⟩ := at_lst e1
  refine ⟨p, b, ys, zs, rfl, rfl, n1 p _ hp, hb, by rw [hy.len, hz.len]; exact small80 (by omega), ?_⟩
  exact q H1 _ _ n1 rfl (wo_upd List.mem_cons_self) (Own1.up (n1 p _ hp) (hy.mono (wo_nw n1)) hz)
end
/-! ### what of lists of things is refused -/
theorem all_no {f : Th → Bool} {ds : List Th} (h : (ds.all fun d => !f d) = true) : ∀ d ∈ ds, f d = false := fun d hd => by
  have := List.all_eq_true.mp h d hd
  cases e : f d with
  | false => rfl
  | true => rw [e] at this; cases this
theorem words_one {ds : List Th} {t : Th} (m : t ∈ ds) (h : wordB t = false) : wordsB (.lst ds) = false := by
  show (_ && ds.all wordB) = false
  rw [show ds.all wordB = false from List.all_eq_false.mpr ⟨t, m, by rw [h]; exact Bool.false_ne_true⟩, Bool.and_false]
/-- no number from 0 on -/
def noN (d : Th) : Prop := ∀ lo hi : Int, 0 ≤ lo → numB d lo hi = false
def numsD (m : Int) : List Th := [.non, .str "1", .bl true, .bl false, .lst [.int 1], .tup [.int 1], .dct, .int (-1), .int (-1 - m)]
theorem noN_nums {m : Int} (h : 0 ≤ m) : ∀ d ∈ numsD m, noN d := fun d hd lo hi l => by
  unfold numsD at hd
  simp only [List.mem_cons, List.not_mem_nil, or_false] at hd
  rcases hd with rfl | rfl | rfl | rfl | rfl | rfl | rfl | rfl | rfl
  all_goals first | rfl | exact decide_eq_false fun z => by omega
theorem noN_c {d e p o a : Th} (h : noN d) : wordB (.tup [d, e, p, o, a]) = false := by
  show (numB d 1 99 && _) = false
  rw [h 1 99 (by decide), Bool.false_and]
theorem noN_h {d e p o a : Th} (h : noN e) : wordB (.tup [d, e, p, o, a]) = false := by
  show (_ && (numB e 0 3 && _)) = false
  rw [h 0 3 (by decide), Bool.false_and, Bool.and_false]
theorem noN_p {d e p o a : Th} (h : noN p) : wordB (.tup [d, e, p, o, a]) = false := by
  show (_ && (_ && (numB p 0 7 && _))) = false
  rw [h 0 7 (by decide), Bool.false_and, Bool.and_false, Bool.and_false]
theorem noN_o {d e p o a : Th} (h : noN o) : wordB (.tup [d, e, p, o, a]) = false := by
  show (_ && (_ && (_ && (numB o 0 11 && _)))) = false
  rw [h 0 11 (by decide), Bool.false_and, Bool.and_false, Bool.and_false, Bool.and_false]
theorem noA {d e p o a : Th} (h : ansB a = false) : wordB (.tup [d, e, p, o, a]) = false := by
  show (_ && (_ && (_ && (_ && ansB a)))) = false
  rw [h, Bool.and_false, Bool.and_false, Bool.and_false, Bool.and_false]
end CH
namespace CH
open PySem PySem.Spec PyProof.Rows L2
theorem gam0 {S : List Addr} {H : Hp} : ∀ q ∈ ([] : List (V × Th)), At (wo S H) q.2 q.1 := fun q hq => absurd hq List.not_mem_nil
theorem gam1 {S : List Addr} {H : Hp} {d : Th} {v : V} (h : At (wo S H) d v) : ∀ q ∈ [(v, d)], At (wo S H) q.2 q.1 := fun q hq => by
  rw [List.mem_singleton.mp hq]
  exact h
theorem gam2 {S : List Addr} {H : Hp} {d e : Th} {v u : V} (h : At (wo S H) d v) (g : At (wo S H) e u) : ∀ q ∈ [(v, d), (u, e)], At (wo S H) q.2 q.1 := fun q hq => by
  rcases List.mem_cons.mp hq with rfl | hq
  · exact h
  · exact gam1 g q hq
theorem gam3 {S : List Addr} {H : Hp} {d e f : Th} {v u x : V} (h : At (wo S H) d v) (g : At (wo S H) e u) (i : At (wo S H) f x) : ∀ q ∈ [(v, d), (u, e), (x, f)], At (wo S H) q.2 q.1 := fun q hq => by
  rcases List.mem_cons.mp hq with rfl | hq
  · exact h
  · exact gam2 g i q hq
theorem noS {H : Hp} : ∀ b ∈ ([] : List Addr), H b ≠ none := fun b hb => absurd hb List.not_mem_nil
theorem At.w0 {H : Hp} {d : Th} {v : V} (h : At H d v) : At (wo [] H) d v := by rw [wo_nil]; exact h
/-- a list, of which nothing is so -/
def Nol (f : Th → Bool) (n : Nat) (ds : List Th) : Prop := ds.length ≤ n ∧ ∀ d ∈ ds, f d = false
theorem Nol.app {f : Th → Bool} {n m : Nat} {ds es : List Th} (a : Nol f n ds) (b : Nol f m es) : Nol f (n + m) (ds ++ es) := ⟨by rw [List.length_append]; exact Nat.add_le_add a.1 b.1, fun d hd => (List.mem_append.mp hd).elim (a.2 d) (b.2 d)⟩
theorem Nol.le {f : Th → Bool} {n m : Nat} {ds : List Th} (a : Nol f n ds) (h : n ≤ m) : Nol f m ds := ⟨Nat.le_trans a.1 h, a.2⟩
theorem nol_nil {f : Th → Bool} : Nol f 0 [] := ⟨Nat.le_refl _, fun d hd => absurd hd List.not_mem_nil⟩
theorem nol_cons {f : Th → Bool} {n : Nat} {d : Th} {ds : List Th} (h : f d = false) (a : Nol f n ds) : Nol f (n + 1) (d :: ds) := ⟨Nat.succ_le_succ a.1, fun e he => (List.mem_cons.mp he).elim (fun z => z ▸ h) (a.2 e)⟩
end CH
namespace CH
open PySem PySem.Spec PyProof.Rows L2
section
variable {K : PySem.W.Frag} {S : List Addr} {Γ : List (V × Th)} {σ : L2.St} {D : Ends} {rest : TS} {j : Nat}
/-- x = [..] -/
theorem asg_lst {ts : TA} {ds : List Th} (a : Mas S Γ ts σ ds) (l : ds.length ≤ 1000) {H : Hp} (g : ∀ q ∈ Γ, At (wo S H) q.2 q.1) (s : ∀ b ∈ S, H b ≠ none) (q : ∀ p H', Nw H H' → H p = none → Own1 S H' p ds → rest D (σ.set j (some (.ref p))) H') : tSeq (tAsg (tLst ts) (gName j)) rest D σ H :=
  lst_own (H := H) (Q := fun v H' => rest D (σ.set j (some v)) H') a l g s q
/-- x = a + b -/
theorem asg_cat {ta tb : TE} {ds es : List Th} (a : Ma S Γ ta σ (.lst ds)) (b : Ma S Γ tb σ (.lst es)) (l : ds.length + es.length ≤ 10000) {H : Hp} (g : ∀ q ∈ Γ, At (wo S H) q.2 q.1) (s : ∀ b ∈ S, H b ≠ none) (q : ∀ p H', Nw H H' → H p = none → Own1 S H' p (ds ++ es) → rest D (σ.set j (some (.ref p))) H') :
    tSeq (tAsg (tOp rCat ta tb) (gName j)) rest D σ H :=
  cat_own (H := H) (Q := fun v H' => rest D (σ.set j (some v)) H') a b l g s q
/-- x = e -/
theorem asg_ma {t : TE} {d : Th} (a : Ma S Γ t σ d) {H : Hp} (g : ∀ q ∈ Γ, At (wo S H) q.2 q.1) (s : ∀ b ∈ S, H b ≠ none) (q : ∀ v H', Nw H H' → At (wo S H') d v → rest D (σ.set j (some v)) H') : tSeq (tAsg t (gName j)) rest D σ H :=
  a H (fun v H' => rest D (σ.set j (some v)) H') g s q
theorem drop_app {t : TE} {d : Th} {ds : List Th} {p : Addr} {H : Hp} (hs : σ[j]? = some (some (.ref p))) (a : Ma (p :: S) Γ t σ d) (o : Own1 S H p ds) (l : ds.length ≤ 10000) (g : ∀ q ∈ Γ, At (wo (p :: S) H) q.2 q.1) (s : ∀ b ∈ S, H b ≠ none)
    (q : ∀ H' H'' ys, Nw H H' → H'' = upd H' p (.lst ys) → wo (p :: S) H'' = wo (p :: S) H' → Own1 S H'' p (ds ++ [d]) → D.nx σ H'') : tDrop (tBM K "list" rAppend (tVar j) (tCons t tNil)) D σ H := by
  refine ⟨_, hs, .inl ⟨rfl, ?_⟩, ?_⟩
  · obtain ⟨ys, h, _⟩ := o
    exact ⟨ys, sq_of h⟩
  · exact app_own (Q := fun _ H' => D.nx σ H') a o l g s q
theorem drop_ext {t : TE} {es ds : List Th} {p : Addr} {H : Hp} (hs : σ[j]? = some (some (.ref p))) (a : Ma (p :: S) Γ t σ (.lst es)) (o : Own1 S H p ds) (l : ds.length + es.length ≤ 10000) (g : ∀ q ∈ Γ, At (wo (p :: S) H) q.2 q.1) (s : ∀ b ∈ S, H b ≠ none)
    (q : ∀ H' H'' ys, Nw H H' → H'' = upd H' p (.lst ys) → wo (p :: S) H'' = wo (p :: S) H' → Own1 S H'' p (ds ++ es) → D.nx σ H'') : tDrop (tBM K "list" rExtend (tVar j) (tCons t tNil)) D σ H := by
  refine ⟨_, hs, .inl ⟨rfl, ?_⟩, ?_⟩
  · obtain ⟨ys, h, _⟩ := o
    exact ⟨ys, sq_of h⟩
  · exact ext_own (Q := fun _ H' => D.nx σ H') a o l g s q
theorem seq_of {u : TS} {H : Hp} (h : u { nx := rest D, rt := D.rt, bk := D.bk, ct := D.ct } σ H) : tSeq u rest D σ H := h
/-- the heap behind such a step: new objects, and p -/
theorem Own1.pre {H H' H'' : Hp} {p : Addr} {ys : List V} {ds : List Th} (n : Nw H H') (e : H'' = upd H' p (.lst ys)) (o : Own1 S H p ds) {H0 : Hp} (k : Nw H0 H) (np : H0 p = none) : Nw H0 H'' := by
  rw [e]
  exact (k.trans n).mut np
end
end CH
namespace CH
open PySem PySem.Spec PyProof.Rows L2
theorem ret_ma {S : List Addr} {Γ : List (V × Th)} {σ : L2.St} {D : Ends} {t : TE} {d : Th} (a : Ma S Γ t σ d) {H : Hp} (g : ∀ q ∈ Γ, At (wo S H) q.2 q.1) (s : ∀ b ∈ S, H b ≠ none) (q : ∀ v H', Nw H H' → At (wo S H') d v → D.rt v H') : tRet t D σ H := a H D.rt g s q
/-- for x in [..] -/
theorem for_ma {K : PySem.W.Frag} {S : List Addr} {Γ : List (V × Th)} {σ : L2.St} {D : Ends} {t : TE} {ds : List Th} {g : TG} {tb : TS} (a : Ma S Γ t σ (.lst ds)) {H : Hp} (h : ∀ q ∈ Γ, At (wo S H) q.2 q.1) (s : ∀ b ∈ S, H b ≠ none)
    (q : ∀ (r : Addr) (ys : List V) (H' : Hp), Nw H H' → H' r = some (.lst ys) → At (wo S H') (.lst ds) (.ref r) → Ats (wo S H') ds ys → tFor (iList K (tC (.ref r))) g tb D σ H') : tFor (iList K t) g tb D σ H := by
  refine a H _ h s fun v H' n e => ?_
  obtain ⟨r, ys, rfl, hr, hy⟩ := at_lst e
  exact q r ys H' n hr e hy
theorem at_wo {H0 H : Hp} {p : Addr} {d : Th} {v : V} (k : Kx H0 H) (np : H0 p = none) (h : At H0 d v) : At (wo [p] H) d v := h.mono fun b u e n => by
  unfold wo
  rw [if_neg fun z => ne_of_none e np (List.mem_singleton.mp z)]
  exact k.o b u e n
theorem wB_c {d e p o a : Th} (h : numB d 1 99 = false) : wordB (.tup [d, e, p, o, a]) = false := by
  show (numB d 1 99 && _) = false
  rw [h, Bool.false_and]
theorem wB_h {d e p o a : Th} (h : numB e 0 3 = false) : wordB (.tup [d, e, p, o, a]) = false := by
  show (_ && (numB e 0 3 && _)) = false
  rw [h, Bool.false_and, Bool.and_false]
/-- the pieces of an own list's state while it grows: a list r beside it, things ahead of it -/
structure Gr (f : Th → Bool) (H0 H : Hp) (p : Addr) (n : Nat) : Prop where
  k : Nw H0 H
  np : H0 p = none
  o : ∃ ds, Own1 [] H p ds ∧ Nol f n ds
theorem Gr.nw {f : Th → Bool} {H0 H H' : Hp} {p : Addr} {n : Nat} (g : Gr f H0 H p n) (w : Nw H H') : Gr f H0 H' p n := by
  obtain ⟨ds, o, b⟩ := g.o
  exact ⟨g.k.trans w, g.np, ds, o.nw w, b⟩
theorem Gr.pS {f : Th → Bool} {H0 H : Hp} {p : Addr} {n : Nat} (g : Gr f H0 H p n) : ∀ b ∈ [p], H b ≠ none := fun b hb => by
  obtain ⟨ds, ⟨ys, h, _⟩, _⟩ := g.o
  rw [List.mem_singleton.mp hb, h]
  exact fun z => nomatch z
theorem Gr.app {f : Th → Bool} {H0 H : Hp} {p : Addr} {n j : Nat} {K : PySem.W.Frag} {Γ : List (V × Th)} {σ : L2.St} {D : Ends} {t : TE} {d : Th} (g : Gr f H0 H p n) (hs : σ[j]? = some (some (.ref p))) (a : Ma [p] Γ t σ d) (l : n ≤ 5000) (b : f d = false) (h : ∀ q ∈ Γ, At (wo [p] H) q.2 q.1)
    (q : ∀ H'', Gr f H0 H'' p (n + 1) → Sub (wo [p] H) (wo [p] H'') → D.nx σ H'') : tDrop (tBM K "list" rAppend (tVar j) (tCons t tNil)) D σ H := by
  obtain ⟨ds, o, b2⟩ := g.o
  refine drop_app hs a o (by have := b2.1; omega) h noS fun H' H'' ys n' e w o2 => q H'' ⟨o.pre n' e g.k g.np, g.np, _, o2, b2.app (nol_cons b nol_nil)⟩ ?_
  rw [w]
  exact wo_nw n'
theorem Gr.ext {f : Th → Bool} {H0 H : Hp} {p : Addr} {n j m : Nat} {K : PySem.W.Frag} {Γ : List (V × Th)} {σ : L2.St} {D : Ends} {t : TE} {es : List Th} (g : Gr f H0 H p n) (hs : σ[j]? = some (some (.ref p))) (a : Ma [p] Γ t σ (.lst es)) (l : n + m ≤ 5000) (b : Nol f m es) (h : ∀ q ∈ Γ, At (wo [p] H) q.2 q.1)
    (q : ∀ H'', Gr f H0 H'' p (n + m) → Sub (wo [p] H) (wo [p] H'') → D.nx σ H'') : tDrop (tBM K "list" rExtend (tVar j) (tCons t tNil)) D σ H := by
  obtain ⟨ds, o, b2⟩ := g.o
  refine drop_ext hs a o (by have := b2.1; have := b.1; omega) h noS fun H' H'' ys n' e w o2 => q H'' ⟨o.pre n' e g.k g.np, g.np, _, o2, b2.app b⟩ ?_
  rw [w]
  exact wo_nw n'
end CH
namespace CH
open PySem PySem.Spec PyProof.Rows L2
theorem for_gr {K : PySem.W.Frag} {f : Th → Bool} {H0 H : Hp} {p r : Addr} {n m j : Nat} {ds : List Th} {σ : L2.St} {tb : TS} {D : Ends} (g : Gr f H0 H p n) (hr : At (wo [p] H) (.lst ds) (.ref r)) (hσ : σ.set j none = σ)
    (body : ∀ (i : Nat) (y : V) (d : Th) (Hx : Hp) (E : Ends), d ∈ ds → i < ds.length → Gr f H0 Hx p (n + m * i) → At (wo [p] Hx) d y → (∀ H'', Gr f H0 H'' p (n + m * (i + 1)) → Sub (wo [p] Hx) (wo [p] H'') → E.nx (σ.set j (some y)) H'') → tb E (σ.set j (some y)) Hx)
    (after : ∀ (v : Option V) (Hx : Hp), Gr f H0 Hx p (n + m * ds.length) → D.nx (σ.set j v) Hx) : tFor (iList K (tC (.ref r))) (gName j) tb D σ H := by
  obtain ⟨r', ys, e, h, hy⟩ := hr
  cases e
  have hrr : ∀ {Hx : Hp}, Sub (wo [p] H) (wo [p] Hx) → SqL K Hx r ys := fun s => sq_of (wo_sub _ _ (s _ _ h fun ps z => nomatch z) fun ps z => nomatch z)
  have s0 : Sub (wo [p] H) (wo [p] H) := fun b u e _ => e
  refine ⟨r, rfl, ⟨_, hrr s0⟩, for_list (K := K) (a := r) (xs := ys) (fun i σ' Hx => ∃ v, σ' = σ.set j v ∧ Gr f H0 Hx p (n + m * i) ∧ Sub (wo [p] H) (wo [p] Hx)) ⟨none, hσ.symm, g, s0⟩ (fun i σ' Hx _ ⟨_, _, _, s⟩ => hrr s) ?_ ?_⟩
  · rintro i y σ' Hx hi ⟨v, rfl, gx, s⟩
    obtain ⟨d, hd, hdy⟩ := hy.at hi
    have li : i < ds.length := (List.getElem?_eq_some_iff.mp hd).1
    show _ 
    have e2 : (σ.set j v).set j (some y) = σ.set j (some y) := List.set_set ..
    show tb _ ((σ.set j v).set j (some y)) Hx
    rw [e2]
    exact body i y d Hx _ (List.mem_of_getElem? hd) li gx (hdy.mono s) fun H'' g2 s2 => ⟨some y, rfl, g2, fun b u e x => s2 b u (s b u e x) x⟩
  · rintro σ' Hx ⟨v, rfl, gx, s⟩
    rw [hy.len] at gx
    exact after v Hx gx
end CH
namespace CH
open PySem PySem.Spec PyProof.Rows L2
theorem for_any {K : PySem.W.Frag} {S : List Addr} {σ : L2.St} {D : Ends} {t : TE} {ds : List Th} {g : TG} {tb : TS} {H : Hp} (h : ∀ Q : VK, (∀ v H', Nw H H' → At (wo S H') (.lst ds) v → Q v H') → t σ H Q)
    (q : ∀ (r : Addr) (H' : Hp), Nw H H' → At (wo S H') (.lst ds) (.ref r) → tFor (iList K (tC (.ref r))) g tb D σ H') : tFor (iList K t) g tb D σ H := by
  refine h _ fun v H' n e => ?_
  obtain ⟨r, ys, rfl, hr, hy⟩ := id e
  exact q r H' n e
end CH
namespace CH
open PySem PySem.Spec PyProof.Rows L2
theorem noN_rise {b : Int} {ds : List Th} {d : Th} (h : noN d) (l : 0 ≤ lastI b ds + 1) : riseB b (ds ++ [d]) = false := by
  rw [rise_snoc, h _ 7 l, Bool.and_false]
theorem meetB_e {p e n : Th} (h : numB e 1 (p.items.length : Nat) = false) : meetB (.tup [p, e, n]) = false := by
  show (_ && (numB e 1 (p.items.length : Nat) && _)) = false
  rw [h, Bool.false_and, Bool.and_false]
end CH
namespace CH
open PySem PySem.Spec PyProof.Rows L2
theorem gamA1 {H : Hp} {d : Th} {v : V} (h : At H d v) : ∀ q ∈ [(v, d)], At H q.2 q.1 := fun q hq => by
  rw [List.mem_singleton.mp hq]
  exact h
theorem gamA2 {H : Hp} {d e : Th} {v u : V} (h : At H d v) (g : At H e u) : ∀ q ∈ [(v, d), (u, e)], At H q.2 q.1 := fun q hq => by
  rcases List.mem_cons.mp hq with rfl | hq
  · exact h
  · exact gamA1 g q hq
theorem gamA0 {H : Hp} : ∀ q ∈ ([] : List (V × Th)), At H q.2 q.1 := fun q hq => absurd hq List.not_mem_nil
end CH
end

section
set_option Elab.async false
set_option linter.all false
set_option maxRecDepth 100000
set_option maxHeartbeats 4000000
/-! lambdas in a def that hands them on -/
namespace CH
open PySem PySem.Spec PyProof.Rows L2
open LamX (CodeO)
open NdefX (NF NScope CellsAt startF ncx slotAt)
def nilE : Expr := .Tuple [] 0 ⟨0, 0, 0, 0⟩
/-- parts of a text -/
def kidS : Stmt → Expr
  | .Assign _ v _ => v
  | .If t _ _ _ => t
  | .Return (some e) _ => e
  | .Expr e _ => e
  | _ => nilE
def kidE (e : Expr) (i : Nat) : Expr := match e with
  | .List es _ => es.getD i nilE
  | .Tuple es _ _ => es.getD i nilE
  | .BoolOp _ es _ => es.getD i nilE
  | .Call _ es _ _ => es.getD i nilE
  | .BinOp l _ r _ => if i = 0 then l else r
  | .Compare l _ es _ => if i = 0 then l else es.getD (i - 1) nilE
  | .UnaryOp _ e _ => e
  | e => e
def bodyS : Stmt → List Stmt
  | .For _ _ b _ _ => b
  | .If _ b _ _ => b
  | _ => []
def lamP : Expr → Arguments
  | .Lambda p _ _ _ => p
  | _ => ⟨[], [], none, [], [], none, []⟩
def lamB : Expr → Expr
  | .Lambda _ b _ _ => b
  | e => e
def lamS (d : Scope) : Expr → Scope
  | .Lambda _ _ s _ => s
  | _ => d
/-- where the lambdas of the def x stand -/
def qlam (x : Str) : Str := x ++ ".<locals>." ++ "<lambda>"
/-- a lambda's object stands there -/
def LamIs (H : Hp) (f : Addr) (mk : Addr → LF) : Prop := ∃ c' : Addr, H f = some (LamO f (mk c')) ∧ H c' = some (CodeO c' (mk c').qual) ∧ (mk c').c = c'
theorem LamIs.k {H H' : Hp} {f : Addr} {mk : Addr → LF} (k : Kx H H') (h : LamIs H f mk) : LamIs H' f mk := by
  obtain ⟨c', h1, h2, h3⟩ := h
  exact ⟨c', k.o _ _ h1 lamO_ne, k.o _ _ h2 LamX.codeO_ne, h3⟩
theorem lamO_lst {f : Addr} {F : LF} {xs : List V} : LamO f F ≠ .lst xs := fun z => by
  unfold LamO at z
  cases z
theorem codeO_lst {c : Addr} {q : Str} {xs : List V} : CodeO c q ≠ .lst xs := fun z => by
  unfold LamX.CodeO at z
  cases z
theorem LamIs.up {H : Hp} {f p : Addr} {mk : Addr → LF} {xs : List V} {u : HO} (h : LamIs H f mk) (hp : H p = some (.lst xs)) : LamIs (upd H p u) f mk := by
  obtain ⟨c', h1, h2, h3⟩ := h
  refine ⟨c', ?_, ?_, h3⟩
  · rw [upd_ne fun z => lamO_lst (Option.some.inj (h1.symm.trans (z ▸ hp)))]
    exact h1
  · rw [upd_ne fun z => codeO_lst (Option.some.inj (h2.symm.trans (z ▸ hp)))]
    exact h2
/-- the lambda at f refuses v by the class C, in whatever heap behind H -/
def Refuses (P : Program) (w : World) (K : PySem.W.Frag) (mg : Str → Option Value) (base : Heap) (k : Nat) (H : Hp) (f : Addr) (v : V) (C : Addr) : Prop := ∃ (F : LF) (sp : Sp), ActOk P w K mg base k F sp ∧ H f = some (LamO f F) ∧ H F.c = some (CodeO F.c F.qual) ∧
  ∀ (H' : Hp) (Q : VK) (E : XK), Kx H H' → (∀ H'', Kx H' H'' → E (.ref C) none H'') → sp [v] H' Q E
theorem Refuses.k {P : Program} {w : World} {K : PySem.W.Frag} {mg : Str → Option Value} {base : Heap} {k : Nat} {H H' : Hp} {f : Addr} {v : V} {C : Addr} (r : Refuses P w K mg base k H f v C) (kx : Kx H H') : Refuses P w K mg base k H' f v C := by
  obtain ⟨F, sp, a, h1, h2, h3⟩ := r
  exact ⟨F, sp, a, kx.o _ _ h1 (lamO_ne), kx.o _ _ h2 LamX.codeO_ne, fun H2 Q E k2 => h3 H2 Q E (kx.trans k2)⟩
theorem LamIs.refuses {P : Program} {w : World} {K : PySem.W.Frag} {mg : Str → Option Value} {base : Heap} {H : Hp} {f : Addr} {mk : Addr → LF} {sp : Sp} {v : V} {C : Addr} (h : LamIs H f mk) (a : ∀ c', ActOk P w K mg base 10 (mk c') sp)
    (s : ∀ (H' : Hp) (Q : VK) (E : XK), Kx H H' → (∀ H'', Kx H' H'' → E (.ref C) none H'') → sp [v] H' Q E) : Refuses P w K mg base 10 H f v C := by
  obtain ⟨c', h1, h2, h3⟩ := h
  exact ⟨mk c', sp, a c', h1, by rw [h3]; exact h2, s⟩
/-- the table of a def's code objects, beside the heap -/
structure Tb (Hm : Hp) (P : Addr) (ps : Array Value) (q : Str) : Prop where
  n : Hm P = none
  l : TabL Hm ps q
theorem Tb.k {Hm Hm' : Hp} {P : Addr} {ps : Array Value} {q : Str} (t : Tb Hm P ps q) (k : Kx Hm Hm') (n : Hm' P = none) : Tb Hm' P ps q := ⟨n, t.l.k k⟩
theorem Tb.o {Hm : Hp} {P : Addr} {ps : Array Value} {q : Str} (t : Tb Hm P ps q) : OvOk Hm [(P, ps)] := ovOk1 t.n
theorem Tb.rd {Hm : Hp} {P : Addr} {ps : Array Value} {q : Str} {b : Addr} {u : HO} (t : Tb Hm P ps q) (h : Hm b = some u) : ov Hm [(P, ps)] b = some u := (ov_of t.o h).1
theorem Tb.sub {Hm : Hp} {P : Addr} {ps : Array Value} {q : Str} (t : Tb Hm P ps q) : Sub Hm (ov Hm [(P, ps)]) := fun b u h _ => t.rd h
/-- something new -/
theorem Tb.new {Hm : Hp} {P p : Addr} {ps : Array Value} {q : Str} {u : HO} (t : Tb Hm P ps q) (np : ov Hm [(P, ps)] p = none) : Hm p = none ∧ upd (ov Hm [(P, ps)]) p u = ov (upd Hm p u) [(P, ps)] ∧ Tb (upd Hm p u) P ps q := by
  obtain ⟨n1, n2⟩ := ov_none np
  have ne : p ≠ P := fun z => by
    rw [z, look1s] at n2
    cases n2
  exact ⟨n1, ov1_upd ne, t.k (Kx.new n1) (by rw [upd_ne ne.symm]; exact t.n)⟩
theorem Tb.mut {Hm : Hp} {P p : Addr} {ps : Array Value} {q : Str} {u v : HO} (t : Tb Hm P ps q) (h : Hm p = some v) : p ≠ P ∧ upd (ov Hm [(P, ps)]) p u = ov (upd Hm p u) [(P, ps)] := by
  have ne : p ≠ P := fun z => by
    rw [z, t.n] at h
    cases h
  exact ⟨ne, ov1_upd ne⟩
theorem nw_back {Hm H' : Hp} {P : Addr} {ps : Array Value} {q : Str} (t : Tb Hm P ps q) (n : Nw (ov Hm [(P, ps)]) H') : ∃ Hm', H' = ov Hm' [(P, ps)] ∧ Tb Hm' P ps q ∧ Nw Hm Hm' ∧ Sub H' Hm' := by
  obtain ⟨Hm', e, o, k, s⟩ := ov_back t.o n.kx fun b qs e => n b _ (ov_in e)
  refine ⟨Hm', e, ⟨o.at1, t.l.k k⟩, fun b u h => ?_, s⟩
  have h1 := n b u (ov_of t.o h).1
  have h2 := (ov_of t.o h).2
  rw [e, ov_out h2] at h1
  exact h1
/-- a term that makes a thing, there -/
theorem ma_ov {Hm : Hp} {P : Addr} {ps : Array Value} {q : Str} {Γ : List (V × Th)} {t : TE} {σ : L2.St} {d : Th} {Q : VK} (a : Ma [] Γ t σ d) (T : Tb Hm P ps q) (g : ∀ x ∈ Γ, At Hm x.2 x.1) (h : ∀ v Hm', Nw Hm Hm' → Tb Hm' P ps q → At Hm' d v → Q v (ov Hm' [(P, ps)])) : t σ (ov Hm [(P, ps)]) Q := by
  refine a _ Q (fun x hx => (At.w0 ((g x hx).mono T.sub))) noS fun v H' n e => ?_
  obtain ⟨Hm', rfl, T', n', s⟩ := nw_back T n
  exact h v Hm' n' T' ((e.mono wo_sub).mono s)
/-- lambdas made, one behind another -/
def MaL (P : Addr) (q : Str) (t : TA) (σ : L2.St) (mks : List (Addr → LF)) : Prop := ∀ (Hm : Hp) (ps : Array Value) (Q : List V → Hp → Prop), Tb Hm P ps q → (∀ (fs : List Addr) (Hm' : Hp) (ps' : Array Value), Kx Hm Hm' → Tb Hm' P ps' q → Paired (LamIs Hm') fs mks → Q (fs.map V.ref) (ov Hm' [(P, ps')])) → t σ (ov Hm [(P, ps)]) Q
theorem lams_k {H H' : Hp} (k : Kx H H') {fs : List Addr} {mks : List (Addr → LF)} (h : Paired (LamIs H) fs mks) : Paired (LamIs H') fs mks := by
  induction h with
  | nil => exact .nil
  | cons a _ ih => exact .cons (a.k k) ih
theorem lams_up {H : Hp} {p : Addr} {xs : List V} {u : HO} (hp : H p = some (.lst xs)) {fs : List Addr} {mks : List (Addr → LF)} (h : Paired (LamIs H) fs mks) : Paired (LamIs (upd H p u)) fs mks := by
  induction h with
  | nil => exact .nil
  | cons a _ ih => exact .cons (a.up hp) ih
theorem lams_app {H : Hp} {fs gs : List Addr} {ms ns : List (Addr → LF)} (h : Paired (LamIs H) fs ms) (g : Paired (LamIs H) gs ns) : Paired (LamIs H) (fs ++ gs) (ms ++ ns) := by
  induction h with
  | nil => exact g
  | cons a _ ih => exact .cons a ih
theorem mal_nil {P : Addr} {q : Str} {σ : L2.St} : MaL P q tNil σ [] := fun Hm ps Q T h => h [] Hm ps (Kx.refl Hm) T .nil
theorem mal_cons {P : Addr} {q : Str} {σ : L2.St} {mk : Addr → LF} {t : TA} {mks : List (Addr → LF)} (hq : ∀ c', (mk c').qual = q ∧ (mk c').c = c') (a : MaL P q t σ mks) : MaL P q (tCons (tLamM P q mk) t) σ (mk :: mks) := fun Hm ps Q T h => by
  refine ⟨Hm, ps, rfl, T.n, T.l, fun f c' Hm1 ps1 k1 n1 l1 nf hf hc => ?_⟩
  refine a Hm1 ps1 _ ⟨n1, l1⟩ fun fs Hm2 ps2 k2 T2 p => ?_
  have i1 : LamIs Hm1 f mk := ⟨c', hf, by rw [(hq c').1]; exact hc, (hq c').2⟩
  exact h (f :: fs) Hm2 ps2 (k1.trans k2) T2 (.cons (i1.k k2) p)
/-- a list of lambdas -/
structure Lams (H : Hp) (p : Addr) (fs : List Addr) (mks : List (Addr → LF)) : Prop where
  h : H p = some (.lst (fs.map V.ref))
  a : Paired (LamIs H) fs mks
theorem Lams.k {H H' : Hp} {p : Addr} {fs : List Addr} {mks : List (Addr → LF)} (k : Kx H H') (l : Lams H p fs mks) : Lams H' p fs mks := ⟨k.lst l.h, lams_k k l.a⟩
theorem lst_lam {P : Addr} {q : Str} {σ : L2.St} {t : TA} {mks : List (Addr → LF)} (a : MaL P q t σ mks) (n : mks.length ≤ 1000) {Hm : Hp} {ps : Array Value} {Q : VK} (T : Tb Hm P ps q)
    (h : ∀ (p : Addr) (fs : List Addr) (Hm' : Hp) (ps' : Array Value), Kx Hm Hm' → Hm p = none → Tb Hm' P ps' q → Lams Hm' p fs mks → Q (.ref p) (ov Hm' [(P, ps')])) : tLst t σ (ov Hm [(P, ps)]) Q := by
  refine a Hm ps _ T fun fs Hm1 ps1 k1 T1 l1 => ⟨?_, fun p np => ?_⟩
  · rw [List.length_map, paired_len l1]
    exact small80 (by omega)
  · obtain ⟨n1, e1, T2⟩ := T1.new (u := .lst (fs.map V.ref)) np
    rw [e1]
    exact h p fs _ ps1 (k1.trans (Kx.new n1)) (k1.f _ n1) T2 ⟨upd_same, lams_k (Kx.new n1) l1⟩
/-- xs + [lambdas] -/
theorem cat_lam {P p0 : Addr} {q : Str} {σ : L2.St} {t : TA} {j : Nat} {fs0 : List Addr} {ms mks : List (Addr → LF)} (hs : σ[j]? = some (some (.ref p0))) (a : MaL P q t σ mks) (n : ms.length + mks.length ≤ 1000) {Hm : Hp} {ps : Array Value} {Q : VK} (T : Tb Hm P ps q) (l0 : Lams Hm p0 fs0 ms)
    (h : ∀ (p : Addr) (fs : List Addr) (Hm' : Hp) (ps' : Array Value), Kx Hm Hm' → Hm p = none → Tb Hm' P ps' q → Lams Hm' p fs (ms ++ mks) → Q (.ref p) (ov Hm' [(P, ps')])) : tOp rCat (tVar j) (tLst t) σ (ov Hm [(P, ps)]) Q := by
  refine ⟨_, hs, ?_⟩
  refine lst_lam a (by omega) T fun p1 fs1 Hm1 ps1 k1 np1 T1 l1 => ?_
  have l01 := l0.k k1
  refine ⟨p0, p1, _, _, rfl, rfl, T1.rd l01.h, T1.rd l1.h, ?_, fun p np => ?_⟩
  · rw [List.length_map, List.length_map, paired_len l01.a, paired_len l1.a]
    exact small80 (by omega)
  · obtain ⟨n2, e2, T2⟩ := T1.new (u := .lst (fs0.map V.ref ++ fs1.map V.ref)) np
    rw [e2]
    have k2 : Kx Hm1 (upd Hm1 p (.lst (fs0.map V.ref ++ fs1.map V.ref))) := Kx.new n2
    exact h p (fs0 ++ fs1) _ ps1 (k1.trans k2) (k1.f _ n2) T2 ⟨by rw [upd_same, List.map_append], lams_k k2 (lams_app l01.a l1.a)⟩
/-- xs.append(lambda) -/
theorem app_lam {K : PySem.W.Frag} {P p0 : Addr} {q : Str} {σ : L2.St} {D : Ends} {j : Nat} {fs0 : List Addr} {ms : List (Addr → LF)} {mk : Addr → LF} (hs : σ[j]? = some (some (.ref p0))) (hq : ∀ c', (mk c').qual = q ∧ (mk c').c = c') (n : ms.length ≤ 1000) {Hm : Hp} {ps : Array Value} (T : Tb Hm P ps q) (l0 : Lams Hm p0 fs0 ms) {H0 : Hp} (k0 : Kx H0 Hm) (np : H0 p0 = none)
    (h : ∀ (fs : List Addr) (Hm' : Hp) (ps' : Array Value), Kx H0 Hm' → Tb Hm' P ps' q → Lams Hm' p0 fs (ms ++ [mk]) → D.nx σ (ov Hm' [(P, ps')])) : tDrop (tBM K "list" rAppend (tVar j) (tCons (tLamM P q mk) tNil)) D σ (ov Hm [(P, ps)]) := by
  refine ⟨_, hs, .inl ⟨rfl, _, sq_of (T.rd l0.h)⟩, ?_⟩
  refine mal_cons hq mal_nil Hm ps _ T fun fs Hm1 ps1 k1 T1 l1 => ?_
  have l01 := l0.k k1
  cases l1 with
  | cons i1 r =>
    cases r
    refine ⟨p0, _, _, rfl, rfl, T1.rd l01.h, lt80 (by rw [List.length_map, paired_len l01.a]; omega), ?_⟩
    obtain ⟨ne, e2⟩ := T1.mut (u := .lst (fs0.map V.ref ++ [V.ref _])) l01.h
    show D.nx σ (upd (ov Hm1 [(P, ps1)]) p0 _)
    rw [e2]
    refine h (fs0 ++ [_]) _ ps1 ((k0.trans k1).mut np) ⟨by rw [upd_ne ne.symm]; exact T1.n, ?_⟩ ⟨by rw [upd_same, List.map_append] <;> rfl, lams_app (lams_up l01.h l01.a) (.cons (i1.up l01.h) .nil)⟩
    refine ⟨T1.l.1, fun pos cv hcv => ?_⟩
    obtain ⟨c, e1, e3⟩ := T1.l.2 pos cv hcv
    exact ⟨c, e1, by rw [upd_ne fun z => codeO_lst (Option.some.inj (e3.symm.trans (z ▸ l01.h)))]; exact e3⟩
def sp_each (P : Program) (w : World) (K : PySem.W.Frag) (mg : Str → Option Value) (cs : List Addr) (base : Heap) : Sp := fun vs H Q _ => ∃ (la lt : Addr) (fs : List Addr) (ts : List V) (i : Nat) (C : Addr), vs = [.ref la, .ref lt, .int (i : Int)] ∧ H la = some (.lst (fs.map V.ref)) ∧ H lt = some (.lst ts) ∧
  ts.length ≤ 10000 ∧ cs[i]? = some C ∧ (∀ f ∈ fs, ∀ v ∈ ts, Refuses P w K mg base 10 H f v C) ∧ ∀ H', Kx H H' → Q (.bl true) H'
/-- the heap, with the def's own table beside it, behind a step -/
def StT (P1 : Addr) (q : Str) (Hm : Hp) : Hp → Prop := fun H1 => ∃ (Hm' : Hp) (ps' : Array Value), H1 = ov Hm' [(P1, ps')] ∧ Tb Hm' P1 ps' q ∧ Kx Hm Hm'
section
variable {P : Program} {w : World} {K : PySem.W.Frag} {mg : Str → Option Value} {X : Cx} {cs : List Addr} {P1 : Addr} {q : Str} {Hm : Hp} {ps : Array Value} {σ : L2.St} {D : Ends} {rest : TS} {H : Hp}
/-- a list of lambdas, in whatever way it comes -/
def GetL (P1 : Addr) (q : Str) (σ : L2.St) (Hm : Hp) (ps : Array Value) (t : TE) (mks : List (Addr → LF)) : Prop := ∀ Q : VK, (∀ (p : Addr) (fs : List Addr) (Hm' : Hp) (ps' : Array Value), Kx Hm Hm' → Tb Hm' P1 ps' q → Lams Hm' p fs mks → Q (.ref p) (ov Hm' [(P1, ps')])) → t σ (ov Hm [(P1, ps)]) Q
/-- a list of things -/
def GetT (P1 : Addr) (q : Str) (σ : L2.St) (Hm : Hp) (ps : Array Value) (t : TE) (A : Th → Prop) : Prop := ∀ Q : VK, (∀ (v : V) (ds : List Th) (Hm' : Hp), Nw Hm Hm' → Tb Hm' P1 ps q → At Hm' (.lst ds) v → ds.length ≤ 10000 → (∀ d ∈ ds, A d) → Q v (ov Hm' [(P1, ps)])) → t σ (ov Hm [(P1, ps)]) Q
theorem each_cps {tA tT : TE} {mks : List (Addr → LF)} {A : Th → Prop} {i : Nat} {C : Addr} (hC : cs[i]? = some C) (hA : GetL P1 q σ Hm ps tA mks) (hT : ∀ (Hm1 : Hp) (ps1 : Array Value), Kx Hm Hm1 → Tb Hm1 P1 ps1 q → GetT P1 q σ Hm1 ps1 tT A)
    (R : ∀ Hm2, Kx Hm Hm2 → ∀ B, Ext X.base B → X.Ok → Lent X σ B → ∀ mk ∈ mks, ∀ (d : Th) (f : Addr) (v : V), A d → LamIs Hm2 f mk → At Hm2 d v → Refuses P w K mg B 10 Hm2 f v C) (Q : VK) (q1 : ∀ H1, StT P1 q Hm H1 → Q (.bl true) H1) :
    tLend X (sp_each P w K mg cs) (tCons tA (tCons tT (tCons (tC (.int (i : Int))) tNil))) σ (ov Hm [(P1, ps)]) Q := by
  refine hA _ fun p fs Hm1 ps1 k1 T1 l1 => ?_
  refine hT Hm1 ps1 k1 T1 _ fun v ds Hm2 n2 T2 hv ld hds => ?_
  obtain ⟨r, ts, rfl, hr, hts⟩ := hv
  have k12 := k1.trans n2.kx
  have l2 := l1.k n2.kx
  refine ⟨Hm2, [(P1, ps1)], rfl, T2.o, fun B ext ok L => ⟨p, r, fs, ts, i, C, rfl, l2.h, hr, by rw [hts.len]; exact ld, hC, fun f hf u hu => ?_, fun H3 k3 o3 => ?_⟩⟩
  · obtain ⟨d, hd, hdu⟩ := hts.mem hu
    obtain ⟨j, hj⟩ := List.mem_iff_getElem?.mp hf
    obtain ⟨mk, hm, hl⟩ := paired_at l2.a hj
    exact R Hm2 k12 B ext ok L mk (List.mem_of_getElem? hm) d f u (hds d hd) hl hdu
  · exact q1 _ ⟨H3, ps1, rfl, ⟨o3.at1, T2.l.k k3⟩, k12.trans k3⟩
theorem getL_lst {t : TA} {mks : List (Addr → LF)} (a : MaL P1 q t σ mks) (n : mks.length ≤ 1000) (T : Tb Hm P1 ps q) : GetL P1 q σ Hm ps (tLst t) mks := fun Q h => lst_lam a n T fun p fs Hm' ps' k _ T' l => h p fs Hm' ps' k T' l
theorem getL_cat {t : TA} {j : Nat} {p0 : Addr} {fs0 : List Addr} {ms mks : List (Addr → LF)} (hs : σ[j]? = some (some (.ref p0))) (a : MaL P1 q t σ mks) (n : ms.length + mks.length ≤ 1000) (T : Tb Hm P1 ps q) (l0 : Lams Hm p0 fs0 ms) : GetL P1 q σ Hm ps (tOp rCat (tVar j) (tLst t)) (ms ++ mks) := fun Q h =>
  cat_lam hs a n T l0 fun p fs Hm' ps' k _ T' l => h p fs Hm' ps' k T' l
theorem getL_var {j : Nat} {p0 : Addr} {fs0 : List Addr} {ms : List (Addr → LF)} (hs : σ[j]? = some (some (.ref p0))) (T : Tb Hm P1 ps q) (l0 : Lams Hm p0 fs0 ms) : GetL P1 q σ Hm ps (tVar j) ms := fun Q h => ⟨_, hs, h p0 fs0 Hm ps (Kx.refl Hm) T l0⟩
theorem getT_ma {t : TE} {ds : List Th} {A : Th → Prop} {Γ : List (V × Th)} (a : Ma [] Γ t σ (.lst ds)) (T : Tb Hm P1 ps q) (g : ∀ x ∈ Γ, At Hm x.2 x.1) (l : ds.length ≤ 10000) (hA : ∀ d ∈ ds, A d) : GetT P1 q σ Hm ps t A := fun Q h => ma_ov a T g fun v Hm' n T' hv => h v ds Hm' n T' hv l hA
/-- x = [lambdas]; x = x + [lambdas] -/
theorem asg_getL {j : Nat} {t : TE} {mks : List (Addr → LF)} (g : ∀ Q : VK, (∀ (p : Addr) (fs : List Addr) (Hm' : Hp) (ps' : Array Value), Kx Hm Hm' → Hm p = none → Tb Hm' P1 ps' q → Lams Hm' p fs mks → Q (.ref p) (ov Hm' [(P1, ps')])) → t σ (ov Hm [(P1, ps)]) Q)
    (h : ∀ (p : Addr) (fs : List Addr) (Hm' : Hp) (ps' : Array Value), Kx Hm Hm' → Hm p = none → Tb Hm' P1 ps' q → Lams Hm' p fs mks → rest D (σ.set j (some (.ref p))) (ov Hm' [(P1, ps')])) : tSeq (tAsg t (gName j)) rest D σ (ov Hm [(P1, ps)]) := g (fun v H' => rest D (σ.set j (some v)) H') h
/-- if not t or c: return False -/
theorem if_or_no {t : TE} {c2 : TT} {a : TS} {A B : Hp → Prop} (h : ∀ Q : VK, (∀ H1, A H1 → Q (.bl true) H1) → t σ H Q) (h2 : ∀ H1, A H1 → ∀ Q2 : Bool → Hp → Prop, (∀ H2, B H2 → Q2 false H2) → c2 σ H1 Q2) (qq : ∀ H2, B H2 → rest D σ H2) : tSeq (tIfS (tOr (tNot (tB t)) c2) a tNext) rest D σ H := by
  refine h _ fun H1 hA => ⟨true, rfl, ?_⟩
  show if (!true) = true then _ else _
  rw [if_neg (by decide)]
  refine h2 H1 hA _ fun H2 hB => ?_
  show if false = true then _ else _
  rw [if_neg (by decide)]
  exact qq H2 hB
theorem if_no {t : TE} {a : TS} {A : Hp → Prop} (h : ∀ Q : VK, (∀ H1, A H1 → Q (.bl true) H1) → t σ H Q) (qq : ∀ H2, A H2 → rest D σ H2) : tSeq (tIfS (tNot (tB t)) a tNext) rest D σ H := by
  refine h _ fun H1 hA => ⟨true, rfl, ?_⟩
  show if (!true) = true then _ else _
  rw [if_neg (by decide)]
  exact qq H1 hA
end
/-- what a lambda captured: nothing; the j-th name -/
theorem cells0 {P : Program} {w : World} {K : PySem.W.Frag} {mg : Str → Option Value} {X : Cx} {σ : L2.St} {B : Heap} {scope : Scope} {N ps : List Str} (ok : X.Ok) (L : Lent X σ B) (S : NScope N ps [] scope) : ∀ (A : Around) (outer : List Env) (s : Shared) (H : Hp), Env0 P w K mg B A outer s H → CellsAt (cloFrom X.env.cells scope.names []) [] [] s.heap H :=
  cells_lent (js := []) ok L S.free (fun y hy => absurd hy List.not_mem_nil) (fun y hy => absurd hy List.not_mem_nil) rfl fun j hj => absurd hj List.not_mem_nil
theorem cells1 {P : Program} {w : World} {K : PySem.W.Frag} {mg : Str → Option Value} {X : Cx} {σ : L2.St} {B : Heap} {scope : Scope} {N ps : List Str} {y : Str} {v : V} (j : Nat) (ok : X.Ok) (L : Lent X σ B) (S : NScope N ps [y] scope) (kind : X.env.scope.names.lookup y = some .cell) (at_ : X.N[j]? = some y) (hv : σ[j]? = some (some v)) :
    ∀ (A : Around) (outer : List Env) (s : Shared) (H : Hp), Env0 P w K mg B A outer s H → CellsAt (cloFrom X.env.cells scope.names []) [y] [some v] s.heap H := by
  have h := cells_lent (P := P) (w := w) (K := K) (mg := mg) (fr := [y]) (js := [j]) ok L S.free (fun z hz => by
    have := S.frk z hz
    exact PySem.mem_of_lookup this) (fun z hz => by
    rw [List.mem_singleton.mp hz]
    exact kind) (by show [X.N[j]?] = [some y]; rw [at_]) fun i hi => ⟨v, by rw [List.mem_singleton.mp hi]; exact hv⟩
  rw [show [j].map (slotAt σ) = [some v] from by show [slotAt σ j] = _; rw [NdefX.slotAt_of hv]] at h
  exact h
end CH
namespace CH
open PySem PySem.Spec PyProof.Rows L2
theorem asg_ov {P1 : Addr} {q : Str} {Hm : Hp} {ps : Array Value} {σ : L2.St} {D : Ends} {rest : TS} {j : Nat} {Γ : List (V × Th)} {t : TE} {d : Th} (a : Ma [] Γ t σ d) (T : Tb Hm P1 ps q) (g : ∀ x ∈ Γ, At Hm x.2 x.1) (h : ∀ v Hm', Nw Hm Hm' → Tb Hm' P1 ps q → At Hm' d v → rest D (σ.set j (some v)) (ov Hm' [(P1, ps)])) : tSeq (tAsg t (gName j)) rest D σ (ov Hm [(P1, ps)]) :=
  ma_ov (Q := fun v H' => rest D (σ.set j (some v)) H') a T g h
theorem mk_dropL {K : PySem.W.Frag} {S : List Addr} {Γ : List (V × Th)} {σ : L2.St} {t : TE} {ds : List Th} {n : Nat} (a : Ma S Γ t σ (.lst ds)) : Ma S Γ (tSl (rSlL K) t (tPart (tC (.int (n : Int)))) tNoPart) σ (.lst (ds.drop n)) := fun H Q g s q =>
  a H _ g s fun v H1 n1 e1 => by
    obtain ⟨b, ys, rfl, hb, hy⟩ := at_lst e1
    refine ⟨(n : Int), rfl, b, ys, rfl, sq_of hb, fun p np => ?_⟩
    rw [show cutV ys (some (n : Int)) none = ys.drop n from cutV_drop]
    exact q _ _ (n1.trans (Nw.new np)) ⟨p, _, rfl, wo_at np (nwS n1 s), (hy.drop n).mono (wo_nw (Nw.new np))⟩
end CH
namespace CH
open PySem PySem.Spec PyProof.Rows L2
theorem TabL.ke1 {H H' : Hp} {ps : Array Value} {q : Str} {p : Addr} {u : HO} (k : Ke [p] H H') (hp : H p = some u) (n : ∀ c, u ≠ LamX.CodeO c q) (t : TabL H ps q) : TabL H' ps q := ⟨t.1, fun pos cv h => by
  obtain ⟨c, e1, e2⟩ := t.2 pos cv h
  refine ⟨c, e1, k.o c _ (fun z => ?_) e2 LamX.codeO_ne⟩
  have zc := List.mem_singleton.mp z
  subst zc
  exact n _ (Option.some.inj (hp.symm.trans e2))⟩
theorem codeO_ins {c : Addr} {q : Str} {a b : Addr} {fs : List (Str × V)} : HO.ins a b fs ≠ LamX.CodeO c q := fun z => by
  unfold LamX.CodeO at z
  cases z
theorem lst_codeO {c : Addr} {q : Str} {xs : List V} : HO.lst xs ≠ LamX.CodeO c q := fun z => codeO_lst z.symm
section
variable {σ : L2.St} {D : Ends} {rest : TS} {H : Hp}
/-- if c: return False -/
theorem if_f {c2 : TT} {a : TS} {B : Hp → Prop} (h2 : ∀ Q2 : Bool → Hp → Prop, (∀ H2, B H2 → Q2 false H2) → c2 σ H Q2) (qq : ∀ H2, B H2 → rest D σ H2) : tSeq (tIfS c2 a tNext) rest D σ H := by
  refine h2 _ fun H2 hB => ?_
  show if false = true then _ else _
  rw [if_neg (by decide)]
  exact qq H2 hB
/-- if c or not t: return False -/
theorem if_c_no {c2 : TT} {t : TE} {a : TS} {A B : Hp → Prop} (h2 : ∀ Q2 : Bool → Hp → Prop, (∀ H2, A H2 → Q2 false H2) → c2 σ H Q2) (h : ∀ H1, A H1 → ∀ Q : VK, (∀ H2, B H2 → Q (.bl true) H2) → t σ H1 Q) (qq : ∀ H2, B H2 → rest D σ H2) : tSeq (tIfS (tOr c2 (tNot (tB t))) a tNext) rest D σ H := by
  refine h2 _ fun H1 hA => ?_
  show if false = true then _ else _
  rw [if_neg (by decide)]
  refine h H1 hA _ fun H2 hB => ⟨true, rfl, ?_⟩
  show if (!true) = true then _ else _
  rw [if_neg (by decide)]
  exact qq H2 hB
end
end CH
end

section
set_option Elab.async false
set_option linter.all false
set_option maxRecDepth 100000
set_option maxHeartbeats 4000000
/-! books: what is known, in two turns -/
namespace CH
open PySem PySem.Spec PyProof.Rows L2
instance (a b : Wd) : Decidable (plt a b) := by unfold plt; exact inferInstance
/-- the count that is next -/
def nextC (ws : List Wd) : Int := match ws.getLast? with
  | some w => w.c + 1
  | none => 1
theorem once_nodup {ws us : List Wd} (h : Once ws us) : us.Nodup := List.Pairwise.imp (fun {a b} z e => by subst e; exact plt_irr z) h.ord
theorem once_len_eq {ws us : List Wd} (h : Once ws us) (nd : ws.Nodup) : us.length = ws.length := by
  have a := nodup_sub_len (once_nodup h) fun x hx => (h.mem x).mp hx
  have b := nodup_sub_len nd fun x hx => (h.mem x).mpr hx
  omega
/-- the last one has the greatest count -/
theorem last_max {us : List Wd} (h : us.Pairwise plt) {w : Wd} (e : us.getLast? = some w) : ∀ x ∈ us, x.c ≤ w.c := by
  intro x hx
  obtain ⟨vs, rfl⟩ := List.getLast?_eq_some_iff.mp e
  rcases List.mem_append.mp hx with hx | hx
  · have := (List.pairwise_append.mp h).2.2 x hx w (List.mem_singleton.mpr rfl)
    rcases this with z | z
    · exact Int.le_of_lt z
    · exact Int.le_of_eq z.1
  · rw [List.mem_singleton.mp hx]
    exact Int.le_refl _
theorem next_max {ks ws : List Wd} {m : Int} (h : Once ks ws) (p : ∀ x ∈ ks, 0 ≤ x.c) (hm : m ∈ (0 : Int) :: ks.map (·.c)) (top : ∀ y ∈ (0 : Int) :: ks.map (·.c), y ≤ m) : nextC ws = m + 1 := by
  unfold nextC
  cases e : ws.getLast? with
  | none =>
    have : ws = [] := List.getLast?_eq_none_iff.mp e
    subst this
    have : ks = [] := List.eq_nil_iff_forall_not_mem.mpr fun x hx => absurd ((h.mem x).mpr hx) (by simp)
    subst this
    rw [List.mem_singleton.mp hm]
    rfl
  | some w =>
    have hw : w ∈ ws := List.mem_of_getLast? e
    have hk := (h.mem w).mp hw
    have a := top w.c (List.mem_cons_of_mem _ (List.mem_map.mpr ⟨w, hk, rfl⟩))
    have b : m ≤ w.c := by
      rcases List.mem_cons.mp hm with z | z
      · have := p w hk
        omega
      · obtain ⟨x, hx, rfl⟩ := List.mem_map.mp z
        exact last_max h.ord e x ((h.mem x).mpr hx)
    show w.c + 1 = m + 1
    omega
theorem once_snoc {ks ws : List Wd} {n : Wd} (h : Once ks ws) (lt : ∀ x ∈ ks, x.c < n.c) : Once (ks ++ [n]) (ws ++ [n]) := by
  refine ⟨fun x => by rw [List.mem_append, List.mem_append, h.mem x], List.pairwise_append.mpr ⟨h.ord, List.pairwise_singleton _ _, fun a ha b hb => ?_⟩⟩
  rw [List.mem_singleton.mp hb]
  exact .inl (lt a ((h.mem a).mp ha))
/-- words that were not known, put behind -/
def newOf (ks us : List Wd) : List Wd := us.filter fun x => !decide (x ∈ ks)
theorem once_more {ks ws us ds : List Wd} (h : Once ks ws) (g : Once (ws ++ us) ds) : Once (ks ++ newOf ks us) ds := by
  refine ⟨fun x => ?_, g.ord⟩
  rw [g.mem x, List.mem_append, List.mem_append, h.mem x]
  constructor
  · rintro (z | z)
    · exact .inl z
    · by_cases e : x ∈ ks
      · exact .inl e
      · exact .inr (List.mem_filter.mpr ⟨z, by rw [decide_eq_false e]; rfl⟩)
  · rintro (z | z)
    · exact .inl z
    · exact .inr (List.mem_filter.mp z).1
theorem new_nodup {ks us : List Wd} (h : ks.Nodup) (g : us.Nodup) : (ks ++ newOf ks us).Nodup := by
  refine List.nodup_append.mpr ⟨h, g.filter _, fun a ha b hb e => ?_⟩
  subst e
  have := (List.mem_filter.mp hb).2
  rw [decide_eq_true ha] at this
  cases this
/-- there is one such list -/
theorem once_ex (ws : List Wd) (al : Alike ws) : ∃ us, Once ws us := by
  induction ws with
  | nil => exact ⟨[], fun x => Iff.rfl, List.Pairwise.nil⟩
  | cons w ws ih =>
    obtain ⟨us, h⟩ := ih fun a ha b hb => al a (List.mem_cons_of_mem _ ha) b (List.mem_cons_of_mem _ hb)
    by_cases e : w ∈ ws
    · exact ⟨us, fun x => by
        rw [h.mem x, List.mem_cons]
        exact ⟨.inr, fun z => z.elim (fun y => by rw [y]; exact e) id⟩, h.ord⟩
    · refine ⟨us.filter (fun x => decide (plt x w)) ++ w :: us.filter (fun x => !decide (plt x w)), fun x => ?_, ?_⟩
      · rw [List.mem_append, List.mem_cons, List.mem_cons, List.mem_filter, List.mem_filter, ← h.mem x]
        constructor
        · rintro (z | z | z)
          · exact .inr z.1
          · exact .inl z
          · exact .inr z.1
        · rintro (z | z)
          · exact .inr (.inl z)
          · by_cases p : plt x w
            · exact .inl ⟨z, decide_eq_true p⟩
            · exact .inr (.inr ⟨z, by rw [decide_eq_false p]; rfl⟩)
      · have gt : ∀ x ∈ us, ¬ plt x w → plt w x := fun x hx n => by
          have hx2 := (h.mem x).mp hx
          have ne : ¬ (x.c = w.c ∧ x.h = w.h) := fun z => e (by rw [← al x (List.mem_cons_of_mem _ hx2) w List.mem_cons_self z.1 z.2]; exact hx2)
          unfold plt at n ⊢
          omega
        refine List.pairwise_append.mpr ⟨h.ord.filter _, List.pairwise_cons.mpr ⟨fun b hb => ?_, h.ord.filter _⟩, fun a ha b hb => ?_⟩
        · obtain ⟨b1, b2⟩ := List.mem_filter.mp hb
          exact gt b b1 fun z => by rw [decide_eq_true z] at b2; cases b2
        · obtain ⟨a1, a2⟩ := List.mem_filter.mp ha
          have a2 := of_decide_eq_true a2
          rcases List.mem_cons.mp hb with rfl | hb
          · exact a2
          · obtain ⟨b1, b2⟩ := List.mem_filter.mp hb
            have := gt b b1 fun z => by rw [decide_eq_true z] at b2; cases b2
            unfold plt at a2 this ⊢
            omega
end CH
end

section
set_option Elab.async false
set_option linter.all false
set_option maxRecDepth 100000
set_option maxHeartbeats 4000000
/-! several meetings -/
namespace CH
open PySem PySem.Spec PyProof.Rows L2
/-- an hour set before, or none -/
def oldV : Option Int → V
  | none => .non
  | some i => .int i
def jumpZ (x : Option Int) (h : Int) : Int := match x with
  | none => 0
  | some i => if h - i < 0 then -(h - i) else h - i
/-- lists of whole numbers at l -/
def LsAt (K : PySem.W.Frag) (H : Hp) (l : Addr) (css : List (List Int)) : Prop := ∃ rs : List Addr, SqL K H l (rs.map V.ref) ∧ Paired (fun r ns => SqL K H r (ns.map V.int)) rs css
/-- meetings at l -/
def MsAt (K : PySem.W.Frag) (H : Hp) (l : Addr) (ms : List Mt) : Prop := ∃ as : List Addr, SqL K H l (as.map V.ref) ∧ Paired (fun a m => MAt K H a m) as ms
theorem paired_imp {α β : Type} {F G : α → β → Prop} (h : ∀ a b, F a b → G a b) : ∀ {xs : List α} {ys : List β}, Paired F xs ys → Paired G xs ys
  | _, _, .nil => .nil
  | _, _, .cons a p => .cons (h _ _ a) (paired_imp h p)
theorem paired_imp_mem {α β : Type} {F G : α → β → Prop} : ∀ {xs : List α} {ys : List β}, (∀ a ∈ xs, ∀ b, F a b → G a b) → Paired F xs ys → Paired G xs ys
  | _, _, _, .nil => .nil
  | _, _, h, .cons a p => .cons (h _ (.head _) _ a) (paired_imp_mem (fun x hx => h x (.tail _ hx)) p)
theorem LsAt.k {K : PySem.W.Frag} {H H' : Hp} {l : Addr} {css : List (List Int)} (k : Kx H H') (h : LsAt K H l css) : LsAt K H' l css := by
  obtain ⟨rs, h1, h2⟩ := h
  exact ⟨rs, k.l h1, paired_imp (fun _ _ z => k.l z) h2⟩
theorem MsAt.k {K : PySem.W.Frag} {H H' : Hp} {l : Addr} {ms : List Mt} (k : Kx H H') (h : MsAt K H l ms) : MsAt K H' l ms := by
  obtain ⟨rs, h1, h2⟩ := h
  exact ⟨rs, k.l h1, paired_imp (fun _ _ z => z.k k) h2⟩
/-- meetings and hours as they are told to be tight -/
def tightB (cans : List (List Int)) (some_ spots : List Int) : Bool :=
  decide some_.Nodup && (some_.all fun x => decide (0 ≤ x ∧ x < (cans.length : Int))) && decide (dis spots < some_.length) && some_.all fun x => ((cans.getD x.toNat []).all fun h => decide (h ∈ spots))
/-- a table as it is told to be moved -/
def movedB (cans : List (List Int)) (olds : List (Option Int)) (spots prices rents : List Int) : Bool :=
  decide (spots.length = cans.length) && (decide (prices.length = cans.length) && (decide (rents.length = 12) && (decide spots.Nodup && ((rents.all fun x => decide (x ≤ 0)) && (((List.range cans.length).all fun i => decide (spots.getD i 0 ∈ cans.getD i [])) &&
  (((List.range cans.length).all fun i => (cans.getD i []).all fun h => decide (prices.getD i 0 + rents.getD h.toNat 0 ≤ jumpZ (olds.getD i none) h)) &&
  decide (((List.range cans.length).map fun i => jumpZ (olds.getD i none) (spots.getD i 0)).sum = prices.sum + rents.sum)))))))
/-- hours and jumps by them, as a dict -/
def jrow (r : List Int × Option Int) : List (Key × V) := r.1.map fun h => ((Sum.inl h : Key), V.int (jumpZ r.2 h))
def JsAt (H : Hp) (ds : List Addr) (rows : List (List Int × Option Int)) : Prop := Paired (fun d r => H d = some (.dK (jrow r)) ∧ r.1.Nodup ∧ r.1.length ≤ 12 ∧ ∀ h ∈ r.1, 0 ≤ h ∧ h ≤ 11) ds rows
theorem JsAt.k {H H' : Hp} {ds : List Addr} {rows : List (List Int × Option Int)} (k : Kx H H') (h : JsAt H ds rows) : JsAt H' ds rows := paired_imp (fun _ _ z => ⟨k.o _ _ z.1 (fun ps q => nomatch q), z.2⟩) h
theorem jrow_get {r : List Int × Option Int} {h : Int} : valV (jrow r) (Sum.inl h) = if h ∈ r.1 then some (.int (jumpZ r.2 h)) else none := by
  obtain ⟨C, x⟩ := r
  unfold jrow
  show valV (C.map fun h => ((Sum.inl h : Key), V.int (jumpZ x h))) (Sum.inl h) = if h ∈ C then some (.int (jumpZ x h)) else none
  induction C with
  | nil => rfl
  | cons a C ih =>
    by_cases e : a = h
    · subst e
      rw [List.map_cons, valV_pos (p := ((Sum.inl a : Key), V.int (jumpZ x a))) rfl, if_pos List.mem_cons_self]
    · rw [List.map_cons, valV_neg (p := ((Sum.inl a : Key), V.int (jumpZ x a))) (fun z => e (Sum.inl.inj z)), ih]
      by_cases z : h ∈ C
      · rw [if_pos z, if_pos (List.mem_cons_of_mem _ z)]
      · rw [if_neg z, if_neg fun q => by
          rcases List.mem_cons.mp q with q | q
          · exact e q.symm
          · exact z q]
/-- {key: value for h in hours}, the hours once each -/
theorem dc_ints {K : PySem.W.Frag} {a : Addr} {C : List Int} {f : Int → V} {s : Nat} {tv : TE} {vs : List Nat} {σ : L2.St} {H0 : Hp} {D : Addr} {Qd : Hp → Prop} (hl : SqL K H0 a (C.map V.int)) (nd : C.Nodup) (nD : H0 D = none) (h4 : C.length ≤ 4000)
    (hw : ∀ x, wipe ((wipe σ vs).set s (some x)) vs = wipe σ vs) (hg : ∀ x : V, ((wipe σ vs).set s (some x))[s]? = some (some x))
    (hs : ∀ (h : Int) (H3 : Hp), h ∈ C → Kx H0 H3 → ∀ Q : VK, (∀ H4, Kx H3 H4 → Q (f h) H4) → tv ((wipe σ vs).set s (some (.int h))) H3 Q)
    (hd : ∀ H3, Kx H0 H3 → H3 D = some (.dK (C.map fun h => ((Sum.inl h : Key), f h))) → Qd H3) :
    ∃ W : Nat → Nat → Hp → Prop, (∃ m, W 0 m (upd H0 D (.dK []))) ∧ ∀ i m H, W i m H →
      ((Itl K a).stop i H ∧ Qd H) ∨ ((Itl K a).go i H ∧ ∃ Nx : Hp → Prop, (∀ H', Nx H' → ∃ m', m' < m ∧ W (i + 1) m' H') ∧ ∀ x H', (Itl K a).yld i H x H' → gName s x (wipe σ vs) H' fun σ2 H2 => wipe σ2 vs = wipe σ vs ∧ tYes σ2 H2 fun b H3 =>
        if b = true then tVar s σ2 H3 fun y H4 => tv σ2 H4 fun z H5 => ∃ kvs k, y = kV k ∧ H5 D = some (.dK kvs) ∧ kvs.length < sizeLine ∧ Nx (upd H5 D (.dK (putK kvs k z))) else Nx H3) := by
  refine ⟨fun i m H => m = C.length - i ∧ i ≤ C.length ∧ Kx H0 H ∧ H D = some (.dK ((C.take i).map fun h => ((Sum.inl h : Key), f h))), ⟨C.length, rfl, Nat.zero_le _, Kx.new nD, upd_same⟩, ?_⟩
  rintro i m H ⟨rfl, hi, k3, hD⟩
  have qx := k3.l hl
  by_cases hlt : i < C.length
  · have hx : (C.map V.int)[i]? = some (.int C[i]) := by rw [List.getElem?_map, List.getElem?_eq_getElem hlt] <;> rfl
    refine .inr ⟨⟨_, _, qx, hx⟩, fun H' => Kx H0 H' ∧ H' D = some (.dK ((C.take (i + 1)).map fun h => ((Sum.inl h : Key), f h))), fun H' p' => ⟨C.length - (i + 1), by omega, rfl, hlt, p'.1, p'.2⟩, fun v H' y => ?_⟩
    obtain ⟨e, y⟩ := y
    subst e
    have ev : v = .int C[i] := Option.some.inj ((y _ qx).symm.trans hx)
    subst ev
    refine ⟨hw _, yesT ⟨_, hg _, ?_⟩⟩
    refine hs C[i] H' (List.getElem_mem hlt) k3 _ fun H4 k4 => ⟨_, Sum.inl C[i], rfl, k4.o _ _ hD (fun ps z => nomatch z), ?_, (k3.trans k4).mut nD, ?_⟩
    · rw [List.length_map, List.length_take]
      exact lt80 (by omega)
    · have hnew : valV ((C.take i).map fun h => ((Sum.inl h : Key), f h)) (Sum.inl C[i]) = none := by
        have nin : C[i] ∉ C.take i := fun z => by
          obtain ⟨j, hj⟩ := List.mem_iff_getElem?.mp z
          have hji : j < i := by
            have := (List.getElem?_eq_some_iff.mp hj).1
            rw [List.length_take] at this
            omega
          rw [List.getElem?_take_of_lt hji] at hj
          have ij := (List.getElem?_inj (i := j) (j := i) (by omega) nd).mp (hj.trans (List.getElem?_eq_getElem hlt).symm)
          omega
        generalize C.take i = B at nin
        induction B with
        | nil => rfl
        | cons b B ih =>
          rw [List.map_cons, valV_neg (p := ((Sum.inl b : Key), f b)) (fun z => nin (by rw [← Sum.inl.inj z]; exact List.mem_cons_self))]
          exact ih fun z => nin (List.mem_cons_of_mem _ z)
      rw [upd_same, putK_new _ hnew, List.take_add_one, List.getElem?_eq_getElem hlt, List.map_append] <;> rfl
  · have e : i = C.length := by omega
    subst e
    rw [List.take_length] at hD
    exact .inl ⟨⟨_, qx, by rw [List.length_map]; exact Nat.le_refl _⟩, hd H k3 hD⟩
theorem hoursL_nodup (m : Mt) (cs : List Str) (F : Int → Int → Str) : (hoursL m cs F).Nodup := by
  unfold hoursL
  refine List.Pairwise.map _ (fun a b h z => h (Int.ofNat.inj z)) (List.Nodup.sublist List.filter_sublist List.nodup_range)
/-- [.. for x, y in zip(xs, ys)], by an invariant -/
theorem lc_zipP {K : PySem.W.Frag} {a b : Addr} {xs ys : List V} {s1 s2 : Nat} {te : TE} {vs : List Nat} {σ : L2.St} {H0 : Hp} {D : Addr} {Qd : Hp → Prop} (Pv : Nat → Hp → Prop) (hl : xs.length = ys.length) (h0 : Pv 0 (upd H0 D (.lst []))) (ha : ∀ i H, Pv i H → SqL K H a xs ∧ SqL K H b ys)
    (hw : ∀ x y, wipe (((wipe σ vs).set s1 (some x)).set s2 (some y)) vs = wipe σ vs)
    (hs : ∀ (i : Nat) (x y : V) (T : Addr) (H3 : Hp), xs[i]? = some x → ys[i]? = some y → Pv i H3 → H3 T = none → te (((wipe σ vs).set s1 (some x)).set s2 (some y)) (upd H3 T (.tup [x, y])) fun z H4 => ∃ acc, H4 D = some (.lst acc) ∧ acc.length < sizeLine ∧ Pv (i + 1) (upd H4 D (.lst (acc ++ [z]))))
    (hd : ∀ H3, Pv xs.length H3 → Qd H3) :
    ∃ W : Nat → Nat → Hp → Prop, (∃ m, W 0 m (upd H0 D (.lst []))) ∧ ∀ i1 m H, W i1 m H →
      ((Itz K a b).stop i1 H ∧ Qd H) ∨ ((Itz K a b).go i1 H ∧ ∃ Nx : Hp → Prop, (∀ H', Nx H' → ∃ m', m' < m ∧ W (i1 + 1) m' H') ∧ ∀ x H', (Itz K a b).yld i1 H x H' → gTup K 2 (gCons (gName s1) (gCons (gName s2) gNil)) x (wipe σ vs) H' fun σ2 H2 => wipe σ2 vs = wipe σ vs ∧ tYes σ2 H2 fun b H3 =>
        if b = true then te σ2 H3 fun y H4 => ∃ acc, H4 D = some (.lst acc) ∧ acc.length < sizeLine ∧ Nx (upd H4 D (.lst (acc ++ [y]))) else Nx H3) := by
  refine ⟨fun i m H => m = xs.length - i ∧ i ≤ xs.length ∧ Pv i H, ⟨xs.length, rfl, Nat.zero_le _, h0⟩, ?_⟩
  rintro i m H ⟨rfl, hi, p⟩
  obtain ⟨qx, qy⟩ := ha i H p
  by_cases hlt : i < xs.length
  · have hx : xs[i]? = some xs[i] := List.getElem?_eq_getElem hlt
    have hlt2 : i < ys.length := by omega
    have hy : ys[i]? = some ys[i] := List.getElem?_eq_getElem hlt2
    refine .inr ⟨⟨xs, ys, _, _, qx, qy, hx, hy⟩, Pv (i + 1), fun H' p' => ⟨xs.length - (i + 1), by omega, rfl, hlt, p'⟩, fun v H' y => ?_⟩
    obtain ⟨T, x', y', rfl, hT, rfl, f1, f2⟩ := y
    have ht : (upd H T (.tup [x', y'])) T = some (.tup [x', y']) := upd_same
    exact ⟨T, _, rfl, st_of ht, rfl, _, _, rfl, _, _, rfl, rfl, hw x' y', yesT (hs i x' y' T H (f1 xs qx) (f2 ys qy) p hT)⟩
  · have e : i = xs.length := by omega
    subst e
    exact .inl ⟨⟨xs, ys, qx, qy, Or.inl (Nat.le_refl _)⟩, hd H p⟩
theorem zip_at {α β : Type} {xs : List α} {ys : List β} {i : Nat} {x : α} {y : β} (hx : xs[i]? = some x) (hy : ys[i]? = some y) : (xs.zip ys)[i]? = some (x, y) := by
  rw [List.getElem?_zip_eq_some]
  exact ⟨hx, hy⟩
end CH
end

section
set_option Elab.async false
set_option linter.all false
set_option maxRecDepth 100000
set_option maxHeartbeats 4000000
/-! meetings seated one behind another, by prices and rents -/
namespace CH
open PySem PySem.Spec PyProof.Rows L2
abbrev Rows := List (List Int × Option Int)
def canAt (rows : Rows) (i : Nat) : List Int := (rows.getD i ([], none)).1
def cost (rows : Rows) (i : Nat) (h : Int) : Int := jumpZ (rows.getD i ([], none)).2 h
def pr (ps : List Int) (i : Nat) : Int := ps.getD i 0
def rn (rs : List Int) (h : Int) : Int := rs.getD h.toNat 0
/-- rows as they are told -/
structure RowsOk (rows : Rows) : Prop where
  nd : ∀ i, (canAt rows i).Nodup
  in_ : ∀ i, ∀ h ∈ canAt rows i, 0 ≤ h ∧ h ≤ 11
/-- k meetings are seated -/
structure Seated (rows : Rows) (k : Nat) (hs : List (Option Int)) (ps rs : List Int) (hf : Int → Option Nat) : Prop where
  l1 : hs.length = rows.length
  l2 : ps.length = rows.length
  l3 : rs.length = 12
  at_ : ∀ i, i < k → ∃ h, hs[i]? = some (some h) ∧ h ∈ canAt rows i ∧ pr ps i + rn rs h = cost rows i h
  rest : ∀ i, k ≤ i → i < rows.length → hs[i]? = some none
  hold : ∀ h i, hf h = some i ↔ hs[i]? = some (some h)
  bound : ∀ i, i < rows.length → ∀ h ∈ canAt rows i, pr ps i + rn rs h ≤ cost rows i h
  neg : ∀ h : Int, rn rs h ≤ 0
  free : ∀ h : Int, 0 ≤ h → h ≤ 11 → hf h = none → rn rs h = 0
/-- the search for a seat: those who ask, hours reached and from whom -/
structure Search (rows : Rows) (k : Nat) (hs : List (Option Int)) (ps rs : List Int) (hf : Int → Option Nat) (as : List Nat) (rk : List (Int × Nat)) : Prop where
  st : Seated rows k hs ps rs hf
  kn : k < rows.length
  len : as.length = rk.length + 1
  head : as[0]? = some k
  held : ∀ (j : Nat) (p : Int × Nat), rk[j]? = some p → ∃ i, as[j + 1]? = some i ∧ hf p.1 = some i
  nd : (rk.map (·.1)).Nodup
  from_ : ∀ (j : Nat) (p : Int × Nat), rk[j]? = some p → ∃ q, q ≤ j ∧ as[q]? = some p.2 ∧ p.1 ∈ canAt rows p.2 ∧ pr ps p.2 + rn rs p.1 = cost rows p.2 p.1
theorem Search.lt {rows : Rows} {k : Nat} {hs : List (Option Int)} {ps rs : List Int} {hf : Int → Option Nat} {as : List Nat} {rk : List (Int × Nat)} (S : Search rows k hs ps rs hf as rk) : ∀ i ∈ as, i < rows.length := by
  intro i hi
  obtain ⟨j, hj⟩ := List.mem_iff_getElem?.mp hi
  cases j with
  | zero =>
    rw [S.head] at hj
    have := S.kn
    have e := Option.some.inj hj
    omega
  | succ j =>
    have hl := (List.getElem?_eq_some_iff.mp hj).1
    have hjr : j < rk.length := by have := S.len; omega
    obtain ⟨i', h1, h2⟩ := S.held j rk[j] (List.getElem?_eq_getElem hjr)
    rw [hj] at h1
    have e := Option.some.inj h1
    have h3 := (S.st.hold _ _).mp h2
    have := (List.getElem?_eq_some_iff.mp h3).1
    have := S.st.l1
    omega
theorem Search.asnd {rows : Rows} {k : Nat} {hs : List (Option Int)} {ps rs : List Int} {hf : Int → Option Nat} {as : List Nat} {rk : List (Int × Nat)} (S : Search rows k hs ps rs hf as rk) : as.Nodup := by
  refine List.pairwise_iff_getElem.mpr fun i j hi hj hij e => ?_
  cases j with
  | zero => omega
  | succ j =>
    have hjr : j < rk.length := by have := S.len; omega
    obtain ⟨b, h1, h2⟩ := S.held j rk[j] (List.getElem?_eq_getElem hjr)
    have hb : b = as[j + 1] := by
      rw [List.getElem?_eq_getElem hj] at h1
      exact (Option.some.inj h1).symm
    have h3 := (S.st.hold _ _).mp h2
    cases i with
    | zero =>
      have h0 : as[0] = k := by
        have := S.head
        rw [List.getElem?_eq_getElem hi] at this
        exact Option.some.inj this
      have h4 := S.st.rest k (Nat.le_refl _) S.kn
      rw [hb, ← e, h0, h4] at h3
      cases h3
    | succ i =>
      have hir : i < rk.length := by have := S.len; omega
      obtain ⟨a, g1, g2⟩ := S.held i rk[i] (List.getElem?_eq_getElem hir)
      have ha : a = as[i + 1] := by
        rw [List.getElem?_eq_getElem hi] at g1
        exact (Option.some.inj g1).symm
      have g3 := (S.st.hold _ _).mp g2
      rw [ha, e, ← hb, h3] at g3
      have e2 : (rk[i]).1 = (rk[j]).1 := (Option.some.inj (Option.some.inj g3)).symm
      have n1 : (rk.map (·.1))[i]? = (rk.map (·.1))[j]? := by
        rw [List.getElem?_map, List.getElem?_map, List.getElem?_eq_getElem hir, List.getElem?_eq_getElem hjr]
        exact congrArg some e2
      have := (List.getElem?_inj (by rw [List.length_map]; exact hir) S.nd).mp n1
      omega
/-- the holder of an hour reached asks, and the hour of one who asks and sits is reached -/
theorem Search.asks {rows : Rows} {k : Nat} {hs : List (Option Int)} {ps rs : List Int} {hf : Int → Option Nat} {as : List Nat} {rk : List (Int × Nat)} (S : Search rows k hs ps rs hf as rk) {i : Nat} {h : Int} (hh : hs[i]? = some (some h)) : i ∈ as ↔ h ∈ rk.map (·.1) := by
  constructor
  · intro hi
    obtain ⟨j, hj⟩ := List.mem_iff_getElem?.mp hi
    cases j with
    | zero =>
      rw [S.head] at hj
      have e := Option.some.inj hj
      have h4 := S.st.rest k (Nat.le_refl _) S.kn
      rw [e, hh] at h4
      cases h4
    | succ j =>
      have hl := (List.getElem?_eq_some_iff.mp hj).1
      have hjr : j < rk.length := by have := S.len; omega
      obtain ⟨b, h1, h2⟩ := S.held j rk[j] (List.getElem?_eq_getElem hjr)
      rw [hj] at h1
      have e := Option.some.inj h1
      have h3 := (S.st.hold _ _).mp h2
      rw [← e, hh] at h3
      rw [Option.some.inj (Option.some.inj h3)]
      exact List.mem_map.mpr ⟨_, List.getElem_mem hjr, rfl⟩
  · intro hm
    obtain ⟨p, hp, rfl⟩ := List.mem_map.mp hm
    obtain ⟨j, hj⟩ := List.mem_iff_getElem?.mp hp
    obtain ⟨b, h1, h2⟩ := S.held j p hj
    have h3 := (S.st.hold p.1 i).mpr hh
    rw [h2] at h3
    rw [← Option.some.inj h3]
    exact List.mem_of_getElem? h1
/-- a newcomer asks first -/
theorem Seated.start {rows : Rows} {k : Nat} {hs : List (Option Int)} {ps rs : List Int} {hf : Int → Option Nat} (S : Seated rows k hs ps rs hf) (hk : k < rows.length) : Search rows k hs ps rs hf [k] [] :=
  ⟨S, hk, rfl, rfl, fun j p h => by simp at h, List.nodup_nil, fun j p h => by simp at h⟩
/-- prices raised, rents lowered -/
theorem Search.raise {rows : Rows} {k : Nat} {hs : List (Option Int)} {ps rs ps' rs' : List Int} {hf : Int → Option Nat} {as : List Nat} {rk : List (Int × Nat)} {x : Int} (ok : RowsOk rows) (S : Search rows k hs ps rs hf as rk) (x0 : 0 ≤ x) (hx : ∀ i ∈ as, ∀ h ∈ canAt rows i, h ∉ rk.map (·.1) → x ≤ cost rows i h - pr ps i - rn rs h)
    (lp : ps'.length = ps.length) (lr : rs'.length = rs.length) (ep : ∀ i, i < rows.length → pr ps' i = pr ps i + if i ∈ as then x else 0) (er : ∀ h : Int, 0 ≤ h → rn rs' h = rn rs h - if h ∈ rk.map (·.1) then x else 0) (en : ∀ h : Int, h < 0 → rn rs' h ≤ 0) :
    Search rows k hs ps' rs' hf as rk := by
  have inH : ∀ p ∈ rk, 0 ≤ p.1 ∧ p.1 ≤ 11 := fun p hp => by
    obtain ⟨j, hj⟩ := List.mem_iff_getElem?.mp hp
    obtain ⟨q, _, _, h3, _⟩ := S.from_ j p hj
    exact ok.in_ _ _ h3
  refine ⟨⟨S.st.l1, lp.trans S.st.l2, lr.trans S.st.l3, fun i hi => ?_, S.st.rest, S.st.hold, fun i hi h hh => ?_, fun h => ?_, fun h h0 h1 hn => ?_⟩, S.kn, S.len, S.head, S.held, S.nd, fun j p hj => ?_⟩
  · obtain ⟨h, h1, h2, h3⟩ := S.st.at_ i hi
    refine ⟨h, h1, h2, ?_⟩
    have hb := ok.in_ i h h2
    have hil : i < rows.length := by have := S.kn; omega
    rw [ep i hil, er h hb.1]
    have e := S.asks h1
    by_cases z : i ∈ as
    · rw [if_pos z, if_pos (e.mp z)]
      omega
    · rw [if_neg z, if_neg fun q => z (e.mpr q)]
      omega
  · have hb := ok.in_ i h hh
    have b0 := S.st.bound i hi h hh
    rw [ep i hi, er h hb.1]
    by_cases z : i ∈ as
    · rw [if_pos z]
      by_cases z2 : h ∈ rk.map (·.1)
      · rw [if_pos z2]
        omega
      · rw [if_neg z2]
        have := hx i z h hh z2
        omega
    · rw [if_neg z]
      by_cases z2 : h ∈ rk.map (·.1)
      · rw [if_pos z2]
        omega
      · rw [if_neg z2]
        omega
  · by_cases h0 : 0 ≤ h
    · have := S.st.neg h
      rw [er h h0]
      by_cases z2 : h ∈ rk.map (·.1)
      · rw [if_pos z2]
        omega
      · rw [if_neg z2]
        omega
    · exact en h (by omega)
  · have hnr : h ∉ rk.map (·.1) := fun z => by
      obtain ⟨p, hp, rfl⟩ := List.mem_map.mp z
      obtain ⟨j, hj⟩ := List.mem_iff_getElem?.mp hp
      obtain ⟨b, _, h2⟩ := S.held j p hj
      rw [hn] at h2
      cases h2
    rw [er h h0, if_neg hnr, S.st.free h h0 h1 hn]
    rfl
  · obtain ⟨q, h1, h2, h3, h4⟩ := S.from_ j p hj
    refine ⟨q, h1, h2, h3, ?_⟩
    have hp := List.mem_of_getElem? hj
    have hil := S.lt p.2 (List.mem_of_getElem? h2)
    rw [ep p.2 hil, er p.1 (inH p hp).1, if_pos (List.mem_of_getElem? h2), if_pos (List.mem_map.mpr ⟨p, hp, rfl⟩)]
    omega
/-- one hour more is reached, its holder asks, too -/
theorem Search.more {rows : Rows} {k : Nat} {hs : List (Option Int)} {ps rs : List Int} {hf : Int → Option Nat} {as : List Nat} {rk : List (Int × Nat)} {h : Int} {m i : Nat} (S : Search rows k hs ps rs hf as rk) (hm : m ∈ as) (hc : h ∈ canAt rows m) (hn : h ∉ rk.map (·.1)) (ht : pr ps m + rn rs h = cost rows m h) (hh : hf h = some i) :
    Search rows k hs ps rs hf (as ++ [i]) (rk ++ [(h, m)]) := by
  obtain ⟨q, hq⟩ := List.mem_iff_getElem?.mp hm
  have hql := (List.getElem?_eq_some_iff.mp hq).1
  have sp : ∀ j p, (rk ++ [(h, m)])[j]? = some p → (j < rk.length ∧ rk[j]? = some p) ∨ (j = rk.length ∧ p = (h, m)) := fun j p hj => by
    by_cases z : j < rk.length
    · rw [List.getElem?_append_left z] at hj
      exact .inl ⟨z, hj⟩
    · rw [List.getElem?_append_right (by omega)] at hj
      have l := (List.getElem?_eq_some_iff.mp hj).1
      have e : j = rk.length := by
        rw [List.length_singleton] at l
        omega
      subst e
      rw [Nat.sub_self] at hj
      exact .inr ⟨rfl, (Option.some.inj hj).symm⟩
  refine ⟨S.st, S.kn, ?_, ?_, fun j p hj => ?_, ?_, fun j p hj => ?_⟩
  · rw [List.length_append, List.length_append, S.len] <;> rfl
  · rw [List.getElem?_append_left (by have := S.len; omega)]
    exact S.head
  · rcases sp j p hj with ⟨hl, hj⟩ | ⟨rfl, rfl⟩
    · obtain ⟨b, h1, h2⟩ := S.held j p hj
      exact ⟨b, by rw [List.getElem?_append_left (by have := S.len; omega)]; exact h1, h2⟩
    · exact ⟨i, by rw [List.getElem?_append_right (by have := S.len; omega), S.len, Nat.sub_self] <;> rfl, hh⟩
  · rw [List.map_append]
    refine List.nodup_append.mpr ⟨S.nd, List.nodup_cons.mpr ⟨by simp, List.nodup_nil⟩, fun a ha b hb e => ?_⟩
    rw [List.mem_singleton.mp hb] at e
    have e' : a = h := e
    rw [e'] at ha
    exact hn ha
  · rcases sp j p hj with ⟨hl, hj⟩ | ⟨rfl, rfl⟩
    · obtain ⟨q', h1, h2, h3, h4⟩ := S.from_ j p hj
      exact ⟨q', h1, by rw [List.getElem?_append_left (by have := S.len; omega)]; exact h2, h3, h4⟩
    · exact ⟨q, by have := S.len; omega, by rw [List.getElem?_append_left hql]; exact hq, hc, ht⟩
/-- on the way of handing on: cur is held by none; those who asked ahead of the j-th hour reached sit as ahead -/
structure Hand (rows : Rows) (k : Nat) (hs0 : List (Option Int)) (hf0 : Int → Option Nat) (ps rs : List Int) (as : List Nat) (rk : List (Int × Nat)) (hs : List (Option Int)) (hf : Int → Option Nat) (cur : Option Int) (j : Nat) : Prop where
  l1 : hs.length = rows.length
  rest : ∀ i : Nat, k < i → i < rows.length → hs[i]? = some none
  at_ : ∀ (i : Nat) (h : Int), hs[i]? = some (some h) → i ≤ k ∧ h ∈ canAt rows i ∧ pr ps i + rn rs h = cost rows i h
  none_ : ∀ i : Nat, i < k → ∃ h : Int, hs[i]? = some (some h)
  inj : ∀ (a b : Nat) (h : Int), hs[a]? = some (some h) → hs[b]? = some (some h) → a = b
  off : ∀ (h : Int) (i : Nat), cur = some h → hs[i]? ≠ some (some h)
  hold : ∀ (h : Int) (i : Nat), cur ≠ some h → (hf h = some i ↔ hs[i]? = some (some h))
  ahead : cur ≠ none → ∀ (q : Nat), q ≤ j → ∀ i : Nat, as[q]? = some i → hs[i]? = hs0[i]?
  stop : cur = none → ∃ h : Int, hs[k]? = some (some h)
  cur_ : ∀ h : Int, cur = some h → ∃ m : Nat, rk[j]? = some (h, m)
  dom : ∀ h : Int, hf h = none → hf0 h = none
/-- what the way leans on -/
structure Way (rows : Rows) (k : Nat) (hs0 : List (Option Int)) (ps rs : List Int) (as : List Nat) (rk : List (Int × Nat)) : Prop where
  kn : k < rows.length
  nd : as.Nodup
  keys : (rk.map (·.1)).Nodup
  le : ∀ i ∈ as, i ≤ k
  head : as[0]? = some k ∧ hs0[k]? = some none
  from_ : ∀ (j : Nat) (p : Int × Nat), rk[j]? = some p → ∃ q, q ≤ j ∧ as[q]? = some p.2 ∧ p.1 ∈ canAt rows p.2 ∧ pr ps p.2 + rn rs p.1 = cost rows p.2 p.1
  held : ∀ (q i : Nat), as[q + 1]? = some i → ∃ p : Int × Nat, rk[q]? = some p ∧ hs0[i]? = some (some p.1)
theorem Search.le {rows : Rows} {k : Nat} {hs : List (Option Int)} {ps rs : List Int} {hf : Int → Option Nat} {as : List Nat} {rk : List (Int × Nat)} (S : Search rows k hs ps rs hf as rk) {i : Nat} {h : Int} (e : hs[i]? = some (some h)) : i < k := by
  refine Nat.lt_of_not_le fun z => ?_
  have hl := (List.getElem?_eq_some_iff.mp e).1
  have l1 := S.st.l1
  have := S.st.rest i z (by omega)
  rw [e] at this
  cases this
/-- handing on begins -/
theorem Search.hand {rows : Rows} {k : Nat} {hs : List (Option Int)} {ps rs : List Int} {hf : Int → Option Nat} {as : List Nat} {rk : List (Int × Nat)} {h : Int} {m : Nat} (S : Search rows k hs ps rs hf as rk) (hh : hf h = none) :
    Hand rows k hs hf ps rs as (rk ++ [(h, m)]) hs hf (some h) rk.length := by
  refine ⟨S.st.l1, fun i h1 h2 => S.st.rest i (by omega) h2, fun i h' e => ?_, fun i hi => ?_, fun a b h' e1 e2 => ?_, fun h' i e z => ?_, fun h' i _ => S.st.hold h' i, fun _ q _ i _ => rfl, fun z => (by cases z), fun h' e => ?_, fun _ z => z⟩
  · have hik := S.le e
    obtain ⟨h2, e2, e3, e4⟩ := S.st.at_ i hik
    rw [e] at e2
    have := Option.some.inj (Option.some.inj e2)
    subst this
    exact ⟨by omega, e3, e4⟩
  · obtain ⟨h2, e2, _⟩ := S.st.at_ i hi
    exact ⟨h2, e2⟩
  · have := (S.st.hold h' a).mpr e1
    have h2 := (S.st.hold h' b).mpr e2
    rw [this] at h2
    exact Option.some.inj h2
  · have e' := Option.some.inj e
    subst e'
    have := (S.st.hold h i).mpr z
    rw [hh] at this
    cases this
  · have e' := Option.some.inj e
    subst e'
    exact ⟨m, by rw [List.getElem?_append_right (Nat.le_refl _), Nat.sub_self] <;> rfl⟩
theorem Search.way {rows : Rows} {k : Nat} {hs : List (Option Int)} {ps rs : List Int} {hf : Int → Option Nat} {as : List Nat} {rk : List (Int × Nat)} {h : Int} {m : Nat} (S : Search rows k hs ps rs hf as rk) (hm : m ∈ as) (hc : h ∈ canAt rows m) (hn : h ∉ rk.map (·.1)) (ht : pr ps m + rn rs h = cost rows m h) : Way rows k hs ps rs as (rk ++ [(h, m)]) := by
  obtain ⟨q, hq⟩ := List.mem_iff_getElem?.mp hm
  have hql := (List.getElem?_eq_some_iff.mp hq).1
  have at1 : ∀ {q i : Nat}, as[q + 1]? = some i → ∃ p : Int × Nat, rk[q]? = some p ∧ hs[i]? = some (some p.1) := fun {q i} hi => by
    have hl := (List.getElem?_eq_some_iff.mp hi).1
    have hjr : q < rk.length := by have := S.len; omega
    obtain ⟨b, h1, h2⟩ := S.held q rk[q] (List.getElem?_eq_getElem hjr)
    rw [hi] at h1
    rw [← Option.some.inj h1] at h2
    exact ⟨_, List.getElem?_eq_getElem hjr, (S.st.hold _ _).mp h2⟩
  refine ⟨S.kn, S.asnd, ?_, fun i hi => ?_, ⟨S.head, S.st.rest k (Nat.le_refl _) S.kn⟩, fun j p hj => ?_, fun q i hi => ?_⟩
  · rw [List.map_append]
    refine List.nodup_append.mpr ⟨S.nd, List.nodup_cons.mpr ⟨by simp, List.nodup_nil⟩, fun a ha b hb e => ?_⟩
    rw [List.mem_singleton.mp hb] at e
    have e' : a = h := e
    rw [e'] at ha
    exact hn ha
  · obtain ⟨j, hj⟩ := List.mem_iff_getElem?.mp hi
    cases j with
    | zero =>
      rw [S.head] at hj
      have := Option.some.inj hj
      omega
    | succ j =>
      obtain ⟨p, _, h2⟩ := at1 hj
      have := S.le h2
      omega
  · by_cases z : j < rk.length
    · rw [List.getElem?_append_left z] at hj
      exact S.from_ j p hj
    · rw [List.getElem?_append_right (by omega)] at hj
      have l := (List.getElem?_eq_some_iff.mp hj).1
      have e : j = rk.length := by
        rw [List.length_singleton] at l
        omega
      subst e
      rw [Nat.sub_self] at hj
      have e2 := (Option.some.inj hj).symm
      subst e2
      exact ⟨q, by have := S.len; omega, hq, hc, ht⟩
  · obtain ⟨p, h1, h2⟩ := at1 hi
    have hl := (List.getElem?_eq_some_iff.mp h1).1
    exact ⟨p, by rw [List.getElem?_append_left hl]; exact h1, h2⟩
/-- one is handed its hour -/
theorem Hand.step {rows : Rows} {k : Nat} {hs0 hs : List (Option Int)} {hf0 hf : Int → Option Nat} {ps rs : List Int} {as : List Nat} {rk : List (Int × Nat)} {h : Int} {m j : Nat} (W : Way rows k hs0 ps rs as rk) (S : Hand rows k hs0 hf0 ps rs as rk hs hf (some h) j) (hm : rk[j]? = some (h, m)) :
    m < rows.length ∧ ∃ (left : Option Int) (j' : Nat), hs[m]? = some left ∧ (left ≠ none → j' < j) ∧ Hand rows k hs0 hf0 ps rs as rk (hs.set m (some h)) (fun x => if x = h then some m else hf x) left j' := by
  obtain ⟨q, q1, q2, q3, q4⟩ := W.from_ j (h, m) hm
  have hmk := W.le m (List.mem_of_getElem? q2)
  have hml : m < rows.length := by have := W.kn; omega
  have hml2 : m < hs.length := by rw [S.l1]; exact hml
  have hah := S.ahead (by simp) q q1 m q2
  have off := fun i => S.off h i rfl
  have sm : (hs.set m (some h))[m]? = some (some h) := by rw [List.getElem?_set_self hml2]
  have sn : ∀ i : Nat, i ≠ m → (hs.set m (some h))[i]? = hs[i]? := fun i n => by rw [List.getElem?_set_ne (fun z => n z.symm)]
  -- what m had
  obtain ⟨left, hleft⟩ : ∃ left, hs[m]? = some left := ⟨_, List.getElem?_eq_getElem hml2⟩
  have key : ∀ j' : Nat, (left ≠ none → j' < j) → (left ≠ none → ∀ (q : Nat), q ≤ j' → ∀ i : Nat, as[q]? = some i → i ≠ m) → (left = none → m = k) → (∀ h' : Int, left = some h' → ∃ m' : Nat, rk[j']? = some (h', m')) →
      Hand rows k hs0 hf0 ps rs as rk (hs.set m (some h)) (fun x => if x = h then some m else hf x) left j' := fun j' lj ne nk cu => by
    refine ⟨by rw [List.length_set]; exact S.l1, fun i h1 h2 => ?_, fun i x e => ?_, fun i hi => ?_, fun a b x e1 e2 => ?_, fun x i e z => ?_, fun x i nx => ?_, fun nl q' hq' i hi => ?_, fun z => ?_, cu, fun x hx => ?_⟩
    · rw [sn i (by omega)]
      exact S.rest i h1 h2
    · by_cases z : i = m
      · subst z
        rw [sm] at e
        have := Option.some.inj (Option.some.inj e)
        subst this
        exact ⟨hmk, q3, q4⟩
      · rw [sn i z] at e
        exact S.at_ i x e
    · by_cases z : i = m
      · subst z
        exact ⟨h, sm⟩
      · rw [sn i z]
        exact S.none_ i hi
    · by_cases za : a = m
      · by_cases zb : b = m
        · rw [za, zb]
        · rw [za, sm] at e1
          have := Option.some.inj (Option.some.inj e1)
          subst this
          rw [sn b zb] at e2
          exact absurd e2 (off b)
      · by_cases zb : b = m
        · rw [zb, sm] at e2
          have := Option.some.inj (Option.some.inj e2)
          subst this
          rw [sn a za] at e1
          exact absurd e1 (off a)
        · rw [sn a za] at e1
          rw [sn b zb] at e2
          exact S.inj a b x e1 e2
    · subst e
      by_cases zi : i = m
      · subst zi
        rw [sm] at z
        have := Option.some.inj (Option.some.inj z)
        subst this
        exact off i hleft
      · rw [sn i zi] at z
        exact zi (S.inj i m x z hleft)
    · show (if x = h then some m else hf x) = some i ↔ _
      by_cases zx : x = h
      · subst zx
        rw [if_pos rfl]
        constructor
        · intro z
          rw [← Option.some.inj z]
          exact sm
        · intro z
          by_cases zi : i = m
          · rw [zi]
          · rw [sn i zi] at z
            exact absurd z (off i)
      · rw [if_neg zx]
        have o := S.hold x i (fun z => zx (Option.some.inj z).symm)
        by_cases zi : i = m
        · subst zi
          rw [o, sm, hleft]
          constructor
          · intro z
            exact absurd (Option.some.inj z) nx
          · intro z
            exact absurd (Option.some.inj (Option.some.inj z)).symm zx
        · rw [o, sn i zi]
    · have nm := ne nl q' hq' i hi
      rw [sn i nm]
      exact S.ahead (by simp) q' (by have := lj nl; omega) i hi
    · rw [← nk z]
      exact ⟨h, sm⟩
    · have hx : (if x = h then some m else hf x) = none := hx
      by_cases zx : x = h
      · rw [if_pos zx] at hx
        cases hx
      · rw [if_neg zx] at hx
        exact S.dom x hx
  refine ⟨hml, left, ?_⟩
  cases q with
  | zero =>
    have e : m = k := by
      rw [W.head.1] at q2
      exact (Option.some.inj q2).symm
    have el : left = none := by
      rw [hleft, e, W.head.2] at hah
      exact Option.some.inj hah
    exact ⟨0, hleft, fun z => absurd el z, key 0 (fun z => absurd el z) (fun z => absurd el z) (fun _ => e) (fun h' z => by rw [el] at z; cases z)⟩
  | succ q' =>
    obtain ⟨p, p1, p2⟩ := W.held q' m q2
    have el : left = some p.1 := by
      rw [hleft, p2] at hah
      exact Option.some.inj hah
    refine ⟨q', hleft, fun _ => by omega, key q' (fun _ => by omega) (fun _ q2' hq2 i hi e => ?_) (fun z => by rw [el] at z; cases z) (fun h' z => ?_)⟩
    · rw [e] at hi
      have hl2 := (List.getElem?_eq_some_iff.mp hi).1
      have := (List.getElem?_inj hl2 W.nd).mp (hi.trans q2.symm)
      omega
    · rw [el] at z
      rw [← Option.some.inj z]
      exact ⟨p.2, p1⟩
/-- all are handed theirs: one more is seated -/
theorem Hand.done {rows : Rows} {k : Nat} {hs0 hs : List (Option Int)} {hf0 hf : Int → Option Nat} {ps rs : List Int} {as : List Nat} {rk : List (Int × Nat)} {j : Nat} (S0 : Seated rows k hs0 ps rs hf0) (S : Hand rows k hs0 hf0 ps rs as rk hs hf none j) : Seated rows (k + 1) hs ps rs hf := by
  refine ⟨S.l1, S0.l2, S0.l3, fun i hi => ?_, fun i h1 h2 => S.rest i (by omega) h2, fun h i => S.hold h i (by simp), S0.bound, S0.neg, fun h h0 h1 hn => S0.free h h0 h1 (S.dom h hn)⟩
  obtain ⟨h, e⟩ : ∃ h : Int, hs[i]? = some (some h) := by
    by_cases z : i = k
    · rw [z]
      exact S.stop rfl
    · exact S.none_ i (by omega)
  obtain ⟨_, e2, e3⟩ := S.at_ i h e
  exact ⟨h, e, e2, e3⟩
end CH
end

section
set_option Elab.async false
set_option linter.all false
set_option maxRecDepth 100000
set_option maxHeartbeats 4000000
/-! kin: a word more, needed ones fewer, enough fewer -/
namespace CH
open PySem PySem.Spec PyProof.Rows L2
theorem come_mono {ps : List Int} {cs : List Str} {f g : Int → Str} (h : ∀ x, f x ∈ cs → g x ∈ cs) : ∀ x ∈ comeL ps cs f, x ∈ comeL ps cs g := fun x hx => by
  obtain ⟨a, b⟩ := List.mem_filter.mp hx
  exact List.mem_filter.mpr ⟨a, decide_eq_true (h x (of_decide_eq_true b))⟩
theorem canB_mono {m n : Mt} {cs : List Str} {f g : Int → Str} (hp : n.ps = m.ps) (he : n.e ≤ m.e) (hn : ∀ x ∈ n.nds, x ∈ m.nds) (h : ∀ x, f x ∈ cs → g x ∈ cs) (z : canB m cs f = true) : canB n cs g = true := by
  unfold canB at z ⊢
  rw [Bool.and_eq_true] at z ⊢
  obtain ⟨z1, z2⟩ := z
  have z1 := of_decide_eq_true z1
  rw [hp]
  have l : (comeL m.ps cs f).length ≤ (comeL m.ps cs g).length := filter_le (fun x e => decide_eq_true (h x (of_decide_eq_true e))) _
  refine ⟨decide_eq_true (by omega), List.all_eq_true.mpr fun x hx => decide_eq_true (come_mono h x ?_)⟩
  exact of_decide_eq_true (List.all_eq_true.mp z2 x (hn x hx))
theorem hoursL_at {m n : Mt} {cs : List Str} {F G : Int → Int → Str} {o : Int} (hp : n.ps = m.ps) (he : n.e ≤ m.e) (hn : ∀ x ∈ n.nds, x ∈ m.nds) (h : ∀ x, F x o ∈ cs → G x o ∈ cs) (z : o ∈ hoursL m cs F) : o ∈ hoursL n cs G := by
  obtain ⟨i, hi, rfl⟩ := List.mem_map.mp z
  obtain ⟨a, b⟩ := List.mem_filter.mp hi
  exact List.mem_map.mpr ⟨i, List.mem_filter.mpr ⟨a, canB_mono hp he hn h b⟩, rfl⟩
theorem hoursL_congr {m : Mt} {cs ds : List Str} {F G : Int → Int → Str} (h : ∀ x o, decide (F x o ∈ cs) = decide (G x o ∈ ds)) : hoursL m cs F = hoursL m ds G := by
  unfold hoursL canB
  have e : ∀ o : Int, comeL m.ps cs (fun x => F x o) = comeL m.ps ds fun x => G x o := fun o => comeL_congr fun x => h x o
  congr 1
  refine List.filter_congr fun o _ => ?_
  rw [e]
/-- a word behind all others counts -/
theorem ansF_late {ws : List Wd} {w : Wd} (h : ∀ x ∈ ws, x.c < w.c) (p o : Int) : ansF (ws ++ [w]) p o = if w.p = p ∧ w.o = o then w.a else ansF ws p o := by
  unfold ansF ansW
  rw [bestW_snoc]
  have pl : pleO (bestW ws p o) w := by
    have b := bestW_is p o ws
    cases e : bestW ws p o with
    | none => exact trivial
    | some x =>
      rw [e] at b
      exact .inl (h x b.m)
  by_cases g : w.p = p ∧ w.o = o
  · rw [if_pos ⟨g.1, g.2, pl⟩, if_pos g]
    rfl
  · rw [if_neg fun z => g ⟨z.1, z.2.1⟩, if_neg g]
/-- a word before all others counts where there is none -/
theorem ansF_early {ws : List Wd} {w : Wd} (h : ∀ x ∈ ws, w.c < x.c) (k : ∃ x ∈ ws, x.p = w.p ∧ x.o = w.o) : ansF (ws ++ [w]) = ansF ws := by
  funext p o
  unfold ansF ansW
  rw [bestW_snoc]
  by_cases g : w.p = p ∧ w.o = o
  · obtain ⟨x, hx, e1, e2⟩ := k
    have b := bestW_is p o ws
    cases e : bestW ws p o with
    | none =>
      rw [e] at b
      exact absurd ⟨e1.trans g.1, e2.trans g.2⟩ (b x hx)
    | some y =>
      rw [e] at b
      have := h y b.m
      rw [if_neg fun z => ?_]
      have := z.2.2
      unfold pleO ple at this
      dsimp only at this
      omega
  · rw [if_neg fun z => g ⟨z.1, z.2.1⟩]
theorem alike_snoc {ws : List Wd} {w : Wd} (al : Alike ws) (h : ∀ x ∈ ws, x.c ≠ w.c) : Alike (ws ++ [w]) := by
  intro a ha b hb e1 e2
  rcases List.mem_append.mp ha with ha | ha
  · rcases List.mem_append.mp hb with hb | hb
    · exact al a ha b hb e1 e2
    · rw [List.mem_singleton.mp hb] at e1
      exact absurd e1 (h a ha)
  · rcases List.mem_append.mp hb with hb | hb
    · rw [List.mem_singleton.mp ha] at e1
      exact absurd e1.symm (h b hb)
    · rw [List.mem_singleton.mp ha, List.mem_singleton.mp hb]
theorem late_yes {m : Mt} {ws : List Wd} {c h p o : Int} (lt : ∀ x ∈ ws, x.c < c) : ((hoursL m ["yes"] (ansF ws)).all fun x => decide (x ∈ hoursL m ["yes"] (ansF (ws ++ [⟨c, h, p, o, "yes"⟩])))) = true :=
  List.all_eq_true.mpr fun y hy => decide_eq_true (hoursL_at rfl (Int.le_refl _) (fun _ z => z) (fun x z => by rw [ansF_late lt]; split <;> first | exact z | exact List.mem_cons_self) hy)
theorem late_no {m : Mt} {ws : List Wd} {c h p o : Int} (lt : ∀ x ∈ ws, x.c < c) : ((hoursL m ["yes"] (ansF (ws ++ [⟨c, h, p, o, "no"⟩]))).all fun x => decide (x ∈ hoursL m ["yes"] (ansF ws))) = true :=
  List.all_eq_true.mpr fun y hy => decide_eq_true (hoursL_at rfl (Int.le_refl _) (fun _ z => z) (fun x z => by rw [ansF_late lt] at z; split at z <;> first | exact z | exact absurd (show ("no" : Str) ∈ (["yes"] : List Str) from z) (by decide)) hy)
theorem late_one {m : Mt} {ws : List Wd} {c h p o : Int} (lt : ∀ x ∈ ws, x.c < c) : ((hoursL m ["yes"] (ansF (ws ++ [⟨c, h, p, o, "yes"⟩]))).all fun x => decide (x ∈ hoursL m ["yes"] (ansF ws) ++ [o])) = true :=
  List.all_eq_true.mpr fun y hy => decide_eq_true (by
    by_cases e : o = y
    · rw [e]
      exact List.mem_append.mpr (.inr List.mem_cons_self)
    · refine List.mem_append.mpr (.inl (hoursL_at rfl (Int.le_refl _) (fun _ z => z) (fun x z => ?_) hy))
      rw [ansF_late lt, if_neg fun z => e z.2] at z
      exact z)
theorem late_maybe {m : Mt} {ws : List Wd} {c h p o : Int} (lt : ∀ x ∈ ws, x.c < c) : hoursL m ["yes"] (ansF (ws ++ [⟨c, h, p, o, "maybe"⟩])) = hoursL m ["yes"] (ansF (ws ++ [⟨c, h, p, o, "no"⟩])) := hoursL_congr fun x y => by
  rw [ansF_late lt, ansF_late lt]
  dsimp only
  split
  · decide
  · rfl
theorem late_sure {m : Mt} {ws : List Wd} {c h p o : Int} (lt : ∀ x ∈ ws, x.c < c) : hoursL m ["yes", "maybe"] (ansF (ws ++ [⟨c, h, p, o, "maybe"⟩])) = hoursL m ["yes", "maybe"] (ansF (ws ++ [⟨c, h, p, o, "yes"⟩])) := hoursL_congr fun x y => by
  rw [ansF_late lt, ansF_late lt]
  dsimp only
  split
  · decide
  · rfl
end CH
end

section
set_option Elab.async false
set_option linter.all false
set_option maxRecDepth 100000
set_option maxHeartbeats 4000000
/-! all seated: told as moved -/
namespace CH
open PySem PySem.Spec PyProof.Rows L2
theorem perm_sum {xs ys : List Int} (p : xs.Perm ys) : xs.sum = ys.sum := by
  induction p with
  | nil => rfl
  | cons x _ ih => rw [List.sum_cons, List.sum_cons, ih]
  | swap x y l =>
    rw [List.sum_cons, List.sum_cons, List.sum_cons, List.sum_cons]
    omega
  | trans _ _ a b => exact a.trans b
/-- what is nothing off zs sums over zs as over all -/
theorem sum_off {f : Int → Int} : ∀ (L zs : List Int), L.Nodup → zs.Nodup → (∀ z ∈ zs, z ∈ L) → (∀ h ∈ L, h ∉ zs → f h = 0) → (zs.map f).sum = (L.map f).sum
  | [], zs, _, _, s, _ => by
    cases zs with
    | nil => rfl
    | cons z zs => exact absurd (s z List.mem_cons_self) (by simp)
  | h :: L, zs, nL, nz, s, o => by
    obtain ⟨n1, n2⟩ := List.nodup_cons.mp nL
    rw [List.map_cons, List.sum_cons]
    by_cases hh : h ∈ zs
    · have p := List.perm_cons_erase hh
      have e := perm_sum (p.map f)
      rw [e, List.map_cons, List.sum_cons]
      have nz2 := (p.nodup_iff.mp nz)
      obtain ⟨m1, m2⟩ := List.nodup_cons.mp nz2
      rw [sum_off L (zs.erase h) n2 m2 (fun z hz => ?_) (fun g hg ng => ?_)]
      · rcases List.mem_cons.mp (s z (List.mem_of_mem_erase hz)) with rfl | q
        · exact absurd hz m1
        · exact q
      · refine o g (List.mem_cons_of_mem _ hg) fun q => ng ?_
        rcases List.mem_cons.mp (p.mem_iff.mp q) with rfl | q
        · exact absurd hg n1
        · exact q
    · rw [o h List.mem_cons_self hh, sum_off L zs n2 nz (fun z hz => ?_) (fun g hg ng => o g (List.mem_cons_of_mem _ hg) ng)]
      · omega
      · rcases List.mem_cons.mp (s z hz) with rfl | q
        · exact absurd hz hh
        · exact q
theorem sum_add {α : Type} {f g : α → Int} : ∀ l : List α, (l.map fun x => f x + g x).sum = (l.map f).sum + (l.map g).sum
  | [] => rfl
  | x :: l => by
    rw [List.map_cons, List.sum_cons, List.map_cons, List.sum_cons, List.map_cons, List.sum_cons, sum_add l]
    omega
theorem list_getD (rs : List Int) : rs = (List.range rs.length).map fun i => rs.getD i 0 := by
  refine List.ext_getElem (by simp) fun i h1 h2 => ?_
  rw [List.getElem_map, List.getElem_range, List.getD_eq_getElem?_getD, List.getElem?_eq_getElem h1] <;> rfl
/-- all are seated -/
structure AllAt (rows : Rows) (zs ps rs : List Int) : Prop where
  l1 : zs.length = rows.length
  l2 : ps.length = rows.length
  l3 : rs.length = 12
  nd : zs.Nodup
  in_ : ∀ i, i < rows.length → zs.getD i 0 ∈ canAt rows i
  neg : ∀ x ∈ rs, x ≤ 0
  le : ∀ i, i < rows.length → ∀ h ∈ canAt rows i, pr ps i + rn rs h ≤ cost rows i h
  sum : ((List.range rows.length).map fun i => cost rows i (zs.getD i 0)).sum = ps.sum + rs.sum
theorem Seated.all {rows : Rows} {hs : List (Option Int)} {ps rs : List Int} {hf : Int → Option Nat} (ok : RowsOk rows) (S : Seated rows rows.length hs ps rs hf) : ∃ zs : List Int, hs = zs.map some ∧ AllAt rows zs ps rs := by
  obtain ⟨zs, rfl⟩ : ∃ zs : List Int, hs = zs.map some := by
    refine ⟨hs.map fun x => x.getD 0, ?_⟩
    rw [List.map_map]
    refine List.ext_getElem (by simp) fun i h1 h2 => ?_
    rw [List.getElem_map]
    obtain ⟨h, e, _⟩ := S.at_ i (by rw [← S.l1]; exact h1)
    rw [List.getElem?_eq_getElem h1] at e
    rw [Option.some.inj e]
    rfl
  have l1 : zs.length = rows.length := by have := S.l1; rwa [List.length_map] at this
  have gi : ∀ i, i < rows.length → zs[i]? = some (zs.getD i 0) := fun i hi => by
    rw [List.getD_eq_getElem?_getD, List.getElem?_eq_getElem (by omega)] <;> rfl
  have ga : ∀ i, i < rows.length → zs.getD i 0 ∈ canAt rows i ∧ pr ps i + rn rs (zs.getD i 0) = cost rows i (zs.getD i 0) := fun i hi => by
    obtain ⟨h, e, h1, h2⟩ := S.at_ i hi
    rw [List.getElem?_map, gi i hi] at e
    have e : zs.getD i 0 = h := Option.some.inj (Option.some.inj e)
    rw [e]
    exact ⟨h1, h2⟩
  have hold : ∀ (i : Nat) (h : Int), zs[i]? = some h → hf h = some i := fun i h e => (S.hold h i).mpr (by rw [List.getElem?_map, e] <;> rfl)
  have nd : zs.Nodup := by
    refine List.pairwise_iff_getElem.mpr fun i j hi hj hij e => ?_
    have a := hold i _ (List.getElem?_eq_getElem hi)
    have b := hold j _ (List.getElem?_eq_getElem hj)
    rw [e, b] at a
    have := Option.some.inj a
    omega
  refine ⟨zs, rfl, l1, S.l2, S.l3, nd, fun i hi => (ga i hi).1, fun x hx => ?_, S.bound, ?_⟩
  · obtain ⟨i, hi⟩ := List.mem_iff_getElem?.mp hx
    have := S.neg (i : Int)
    unfold rn at this
    rw [show ((i : Int)).toNat = i from rfl, List.getD_eq_getElem?_getD, hi] at this
    exact this
  · have e1 : ((List.range rows.length).map fun i => cost rows i (zs.getD i 0)) = (List.range rows.length).map fun i => ps.getD i 0 + rn rs (zs.getD i 0) := List.map_congr_left fun i hi => ((ga i (List.mem_range.mp hi)).2).symm
    rw [e1, sum_add]
    have e2 : ((List.range rows.length).map fun i => ps.getD i 0) = ps := by
      have := list_getD ps
      rw [S.l2] at this
      exact this.symm
    have e3 : ((List.range rows.length).map fun i => rn rs (zs.getD i 0)) = zs.map (rn rs) := by
      have := list_getD zs
      rw [l1] at this
      conv => rhs; rw [this]
      rw [List.map_map]
      rfl
    have e4 : rs = ((List.range 12).map fun (i : Nat) => (i : Int)).map (rn rs) := by
      have := list_getD rs
      rw [S.l3] at this
      rw [List.map_map]
      exact this
    rw [e2, e3]
    congr 1
    conv => rhs; rw [e4]
    refine sum_off _ zs ?_ nd (fun z hz => ?_) fun h hh nh => ?_
    · refine List.Pairwise.map _ (fun a b h z => h (Int.ofNat.inj z)) List.nodup_range
    · obtain ⟨i, hi⟩ := List.mem_iff_getElem?.mp hz
      have hl := (List.getElem?_eq_some_iff.mp hi).1
      have g := (ga i (by omega)).1
      rw [List.getD_eq_getElem?_getD, hi] at g
      have b := ok.in_ i z g
      exact List.mem_map.mpr ⟨z.toNat, List.mem_range.mpr (by omega), by show ((z.toNat : Nat) : Int) = z; omega⟩
    · obtain ⟨n, hn, rfl⟩ := List.mem_map.mp hh
      have hn := List.mem_range.mp hn
      refine S.free _ (by omega) (by omega) ?_
      cases e : hf (n : Int) with
      | none => rfl
      | some i =>
        have z := (S.hold _ i).mp e
        rw [List.getElem?_map] at z
        obtain ⟨y, hy, ey⟩ := Option.map_eq_some_iff.mp z
        have ey : y = (n : Int) := Option.some.inj ey
        rw [ey] at hy
        exact absurd (List.mem_of_getElem? hy) nh
end CH
namespace CH
open PySem PySem.Spec PyProof.Rows L2
theorem jumpZ_nn (x : Option Int) (h : Int) : 0 ≤ jumpZ x h := by
  cases x with
  | none => exact Int.le_refl 0
  | some i =>
    unfold jumpZ
    dsimp only
    split <;> omega
theorem rep0 (n i : Nat) : (List.replicate n (0 : Int)).getD i 0 = 0 := by
  rw [List.getD_eq_getElem?_getD, List.getElem?_replicate]
  split <;> rfl
/-- nobody is seated -/
theorem Seated.zero (rows : Rows) : Seated rows 0 (List.replicate rows.length none) (List.replicate rows.length 0) (List.replicate 12 0) (fun _ => none) := by
  refine ⟨List.length_replicate, List.length_replicate, List.length_replicate, fun i hi => absurd hi (by omega), fun i _ hi => by rw [List.getElem?_replicate, if_pos hi], fun h i => ⟨fun z => (by cases z), fun z => ?_⟩, fun i hi h hh => ?_, fun h => ?_, fun h _ _ _ => rep0 _ _⟩
  · rw [List.getElem?_replicate] at z
    split at z
    · cases Option.some.inj z
    · cases z
  · have e1 : pr (List.replicate rows.length 0) i = 0 := rep0 _ _
    have e2 : rn (List.replicate 12 0) h = 0 := rep0 _ _
    rw [e1, e2]
    exact jumpZ_nn _ _
  · have e2 : rn (List.replicate 12 0) h = 0 := rep0 _ _
    rw [e2]
    exact Int.le_refl 0
end CH
end

section
set_option Elab.async false
set_option linter.all false
set_option maxRecDepth 100000
set_option maxHeartbeats 4000000
/-! tables against each other: the least sum -/
namespace CH
open PySem PySem.Spec PyProof.Rows L2
/-- what is below nothing off zs sums over zs above all -/
theorem sum_off_le {f : Int → Int} : ∀ (L zs : List Int), zs.Nodup → L.Nodup → (∀ z ∈ zs, z ∈ L) → (∀ h ∈ L, f h ≤ 0) → (L.map f).sum ≤ (zs.map f).sum
  | [], zs, _, _, s, _ => by
    cases zs with
    | nil => exact Int.le_refl _
    | cons z zs => exact absurd (s z List.mem_cons_self) (by simp)
  | h :: L, zs, nz, nL, s, o => by
    obtain ⟨n1, n2⟩ := List.nodup_cons.mp nL
    rw [List.map_cons, List.sum_cons]
    have ol : ∀ h ∈ L, f h ≤ 0 := fun g hg => o g (List.mem_cons_of_mem _ hg)
    by_cases hh : h ∈ zs
    · have p := List.perm_cons_erase hh
      have e := perm_sum (p.map f)
      rw [e, List.map_cons, List.sum_cons]
      obtain ⟨m1, m2⟩ := List.nodup_cons.mp (p.nodup_iff.mp nz)
      have := sum_off_le L (zs.erase h) m2 n2 (fun z hz => by
        rcases List.mem_cons.mp (s z (List.mem_of_mem_erase hz)) with rfl | q
        · exact absurd hz m1
        · exact q) ol
      omega
    · have := sum_off_le L zs nz n2 (fun z hz => by
        rcases List.mem_cons.mp (s z hz) with rfl | q
        · exact absurd hz hh
        · exact q) ol
      have := o h List.mem_cons_self
      omega
/-- all have hours of their own -/
structure Sit (rows : Rows) (zs : List Int) : Prop where
  l1 : zs.length = rows.length
  nd : zs.Nodup
  in_ : ∀ i, i < rows.length → zs.getD i 0 ∈ canAt rows i
def costs (rows : Rows) (zs : List Int) : Int := ((List.range rows.length).map fun i => cost rows i (zs.getD i 0)).sum
theorem AllAt.sit {rows : Rows} {zs ps rs : List Int} (A : AllAt rows zs ps rs) : Sit rows zs := ⟨A.l1, A.nd, A.in_⟩
theorem sum_le {α : Type} {f g : α → Int} : ∀ l : List α, (∀ x ∈ l, f x ≤ g x) → (l.map f).sum ≤ (l.map g).sum
  | [], _ => Int.le_refl _
  | x :: l, h => by
    rw [List.map_cons, List.sum_cons, List.map_cons, List.sum_cons]
    have := h x List.mem_cons_self
    have := sum_le l fun y hy => h y (List.mem_cons_of_mem _ hy)
    omega
theorem range12_nd : ((List.range 12).map fun (n : Nat) => (n : Int)).Nodup := List.Pairwise.map _ (fun a b h z => h (Int.ofNat.inj z)) List.nodup_range
theorem Sit.bnd {rows : Rows} {ys : List Int} (ok : RowsOk rows) (S : Sit rows ys) : ∀ y ∈ ys, y ∈ (List.range 12).map fun (n : Nat) => (n : Int) := fun y hy => by
  obtain ⟨i, hi⟩ := List.mem_iff_getElem?.mp hy
  have hl := (List.getElem?_eq_some_iff.mp hi).1
  have g := S.in_ i (by rw [← S.l1]; exact hl)
  rw [List.getD_eq_getElem?_getD, hi] at g
  have b := ok.in_ i y g
  exact List.mem_map.mpr ⟨y.toNat, List.mem_range.mpr (by omega), by show ((y.toNat : Nat) : Int) = y; omega⟩
/-- prices and rents are at most what any way costs -/
theorem AllAt.least {rows : Rows} {zs ps rs ys : List Int} (ok : RowsOk rows) (A : AllAt rows zs ps rs) (S : Sit rows ys) : ps.sum + rs.sum ≤ costs rows ys := by
  have e1 := sum_le (f := fun i => ps.getD i 0 + rn rs (ys.getD i 0)) (g := fun i => cost rows i (ys.getD i 0)) (List.range rows.length) fun i hi => A.le i (List.mem_range.mp hi) _ (S.in_ i (List.mem_range.mp hi))
  rw [sum_add] at e1
  have e2 : ((List.range rows.length).map fun i => ps.getD i 0) = ps := by
    have := list_getD ps
    rw [A.l2] at this
    exact this.symm
  have e3 : ((List.range rows.length).map fun i => rn rs (ys.getD i 0)) = ys.map (rn rs) := by
    have := list_getD ys
    rw [S.l1] at this
    conv => rhs; rw [this]
    rw [List.map_map]
    rfl
  have e4 : rs = ((List.range 12).map fun (i : Nat) => (i : Int)).map (rn rs) := by
    have := list_getD rs
    rw [A.l3] at this
    rw [List.map_map]
    exact this
  rw [e2, e3] at e1
  have e5 := sum_off_le (f := rn rs) _ ys S.nd range12_nd (S.bnd ok) fun h hh => by
    obtain ⟨n, hn, rfl⟩ := List.mem_map.mp hh
    have : ∀ n : Nat, rs.getD n 0 ≤ 0 := fun n => by
      rw [List.getD_eq_getElem?_getD]
      cases e : rs[n]? with
      | none => exact Int.le_refl _
      | some x => exact A.neg x (List.mem_of_getElem? e)
    exact this _
  rw [← e4] at e5
  unfold costs
  omega
theorem AllAt.cost_ {rows : Rows} {zs ps rs : List Int} (A : AllAt rows zs ps rs) : costs rows zs = ps.sum + rs.sum := A.sum
theorem cost_nn (rows : Rows) (i : Nat) (h : Int) : 0 ≤ cost rows i h := jumpZ_nn _ _
theorem sum_nn0 {α : Type} {f : α → Int} : ∀ l : List α, (∀ x ∈ l, 0 ≤ f x) → (l.map f).sum ≤ 0 → ∀ x ∈ l, f x = 0
  | [], _, _ => fun x hx => absurd hx (by simp)
  | y :: l, h, e => fun x hx => by
    rw [List.map_cons, List.sum_cons] at e
    have a := h y List.mem_cons_self
    have nn : 0 ≤ (l.map f).sum := by
      have : ∀ l : List α, (∀ x ∈ l, 0 ≤ f x) → 0 ≤ (l.map f).sum := fun l => by
        induction l with
        | nil => intro _; exact Int.le_refl _
        | cons z l ih =>
          intro h
          rw [List.map_cons, List.sum_cons]
          have := h z List.mem_cons_self
          have := ih fun x hx => h x (List.mem_cons_of_mem _ hx)
          omega
      exact this l fun x hx => h x (List.mem_cons_of_mem _ hx)
    rcases List.mem_cons.mp hx with rfl | hx
    · omega
    · exact sum_nn0 l (fun x hx => h x (List.mem_cons_of_mem _ hx)) (by omega) x hx
end CH
end

section
set_option Elab.async false
set_option linter.all false
set_option maxRecDepth 100000
set_option maxHeartbeats 4000000
/-! the least sum, row by row -/
namespace CH
open PySem PySem.Spec PyProof.Rows L2
/-- hours of their own for the first rows -/
structure Ways (rows : Rows) (i : Nat) (zs : List Int) : Prop where
  l : zs.length = i
  nd : zs.Nodup
  in_ : ∀ j, j < i → zs.getD j 0 ∈ canAt rows j
def costI (rows : Rows) (i : Nat) (zs : List Int) : Int := ((List.range i).map fun j => cost rows j (zs.getD j 0)).sum
theorem Ways.sit {rows : Rows} {zs : List Int} : Ways rows rows.length zs ↔ Sit rows zs := ⟨fun w => ⟨w.l, w.nd, w.in_⟩, fun s => ⟨s.l1, s.nd, s.in_⟩⟩
theorem costI_all (rows : Rows) (zs : List Int) : costI rows rows.length zs = costs rows zs := rfl
theorem getD_snoc {zs : List Int} {h : Int} {i j : Nat} (l : zs.length = i) (hj : j < i) : (zs ++ [h]).getD j 0 = zs.getD j 0 := by
  rw [List.getD_eq_getElem?_getD, List.getD_eq_getElem?_getD, List.getElem?_append_left (by omega)]
theorem getD_last {zs : List Int} {h : Int} {i : Nat} (l : zs.length = i) : (zs ++ [h]).getD i 0 = h := by
  rw [List.getD_eq_getElem?_getD, List.getElem?_append_right (by omega), l, Nat.sub_self] <;> rfl
theorem Ways.snoc {rows : Rows} {i : Nat} {zs : List Int} {h : Int} (w : Ways rows i zs) (hh : h ∈ canAt rows i) (nh : h ∉ zs) : Ways rows (i + 1) (zs ++ [h]) := by
  refine ⟨by rw [List.length_append, w.l] <;> rfl, ?_, fun j hj => ?_⟩
  · refine List.nodup_append.mpr ⟨w.nd, List.pairwise_singleton _ _, fun a ha b hb e => nh ?_⟩
    rw [← List.mem_singleton.mp hb, ← e]
    exact ha
  · rcases Nat.lt_succ_iff_lt_or_eq.mp hj with z | z
    · rw [getD_snoc w.l z]
      exact w.in_ j z
    · subst z
      rw [getD_last w.l]
      exact hh
theorem costI_snoc {rows : Rows} {i : Nat} {zs : List Int} {h : Int} (l : zs.length = i) : costI rows (i + 1) (zs ++ [h]) = costI rows i zs + cost rows i h := by
  unfold costI
  rw [List.range_succ, List.map_append, List.sum_append]
  have e : ((List.range i).map fun j => cost rows j ((zs ++ [h]).getD j 0)) = (List.range i).map fun j => cost rows j (zs.getD j 0) := List.map_congr_left fun j hj => by rw [getD_snoc l (List.mem_range.mp hj)]
  rw [e, List.map_cons, List.map_nil, getD_last l]
  show _ + (cost rows i h + 0) = _
  rw [Int.add_zero]
theorem Ways.init {rows : Rows} {i : Nat} {zs : List Int} (w : Ways rows (i + 1) zs) : ∃ ys h, zs = ys ++ [h] ∧ Ways rows i ys ∧ h ∈ canAt rows i ∧ h ∉ ys := by
  have ne : zs ≠ [] := fun e => by have := w.l; rw [e] at this; cases this
  obtain ⟨ys, h, rfl⟩ : ∃ ys h, zs = ys ++ [h] := ⟨zs.dropLast, zs.getLast ne, (List.dropLast_concat_getLast ne).symm⟩
  have l : ys.length = i := by
    have := w.l
    rw [List.length_append] at this
    have e : [h].length = 1 := rfl
    omega
  obtain ⟨n1, n2, n3⟩ := List.nodup_append.mp w.nd
  refine ⟨ys, h, rfl, ⟨l, n1, fun j hj => ?_⟩, ?_, fun z => n3 h z h List.mem_cons_self rfl⟩
  · rw [← getD_snoc l hj]
    exact w.in_ j (by omega)
  · have := w.in_ i (by omega)
    rwa [getD_last l] at this
def keyI (zs : List Int) : List Key := zs.map Sum.inl
theorem keyI_inj {zs ys : List Int} (h : keyI zs = keyI ys) : zs = ys := (List.map_inj_right fun a b e => Sum.inl.inj e).mp h
/-- sorted ones with the same members are the same -/
theorem perm_sorted {xs ys : List Int} (p : xs.Perm ys) (h1 : xs.Pairwise (· ≤ ·)) (h2 : ys.Pairwise (· ≤ ·)) : xs = ys := p.eq_of_pairwise (fun a b _ _ => Int.le_antisymm) h1 h2
/-- what is sound: each entry is some way -/
structure LeastA (rows : Rows) (i : Nat) (kvs : List (List Key × V)) : Prop where
  ex : ∀ p ∈ kvs, ∃ (zs ys : List Int), p.1 = keyI zs ∧ zs.Pairwise (· ≤ ·) ∧ Ways rows i ys ∧ zs.Perm ys ∧ p.2 = .int (costI rows i ys)
/-- each way that was looked at has an entry at most as dear -/
def HasK (kvs : List (List Key × V)) (ys : List Int) (v : Int) : Prop := ∃ (zs : List Int) (u : Int), zs.Pairwise (· ≤ ·) ∧ zs.Perm ys ∧ valV kvs (keyI zs) = some (.int u) ∧ u ≤ v
structure Least (rows : Rows) (i : Nat) (kvs : List (List Key × V)) : Prop where
  a : LeastA rows i kvs
  b : ∀ ys, Ways rows i ys → HasK kvs ys (costI rows i ys)
theorem valV_mem {kvs : List (List Key × V)} {k : List Key} {v : V} (h : valV kvs k = some v) : ∃ q ∈ kvs, q.1 = k ∧ q.2 = v := by
  unfold valV at h
  obtain ⟨q, hq, e⟩ := Option.map_eq_some_iff.mp h
  have f := List.find?_some (p := fun kv : List Key × V => decide (kv.1 = k)) hq
  exact ⟨q, List.mem_of_find?_eq_some hq, of_decide_eq_true f, e⟩
theorem min_le (a b : Int) : (if a < b then a else b) ≤ a ∧ (if a < b then a else b) ≤ b := by split <;> omega
theorem mem_put {κ : Type} [DecidableEq κ] {kvs : List (κ × V)} {k : κ} {v : V} {p : κ × V} (h : p ∈ putK kvs k v) : p ∈ kvs ∨ p = (k, v) := by
  unfold putK at h
  split at h
  · obtain ⟨q, hq, e⟩ := List.mem_map.mp h
    split at e
    · next z => exact .inr (by rw [← e, z])
    · exact .inl (by rw [← e]; exact hq)
  · rcases List.mem_append.mp h with h | h
    · exact .inl h
    · exact .inr (List.mem_singleton.mp h)
theorem LeastA.put {rows : Rows} {i : Nat} {kvs : List (List Key × V)} {zs ys : List Int} (a : LeastA rows i kvs) (s : zs.Pairwise (· ≤ ·)) (w : Ways rows i ys) (p : zs.Perm ys) : LeastA rows i (putK kvs (keyI zs) (.int (costI rows i ys))) :=
  ⟨fun q hq => by
    rcases mem_put hq with h | h
    · exact a.ex q h
    · rw [h]
      exact ⟨zs, ys, rfl, s, w, p, rfl⟩⟩
theorem HasK.put {kvs : List (List Key × V)} {ys : List Int} {v w : Int} {k : List Key} (h : HasK kvs ys v) (le : ∀ u : Int, valV kvs k = some (.int u) → w ≤ u) : HasK (putK kvs k (.int w)) ys v := by
  obtain ⟨zs, u, s, p, e, l⟩ := h
  by_cases z : keyI zs = k
  · have := le u (by rw [← z]; exact e)
    exact ⟨zs, w, s, p, by rw [valV_put, if_pos z], by omega⟩
  · exact ⟨zs, u, s, p, by rw [valV_put, if_neg z]; exact e, l⟩
theorem HasK.new {kvs : List (List Key × V)} {zs ys : List Int} {v w : Int} (s : zs.Pairwise (· ≤ ·)) (p : zs.Perm ys) (l : w ≤ v) : HasK (putK kvs (keyI zs) (.int w)) ys v := ⟨zs, w, s, p, by rw [valV_put, if_pos rfl], l⟩
theorem HasK.perm {kvs : List (List Key × V)} {ys xs : List Int} {v u : Int} (h : HasK kvs ys v) (p : ys.Perm xs) (l : v ≤ u) : HasK kvs xs u := by
  obtain ⟨zs, w, s, q, e, l2⟩ := h
  exact ⟨zs, w, s, q.trans p, e, by omega⟩
/-- what was looked at: all hours behind the first u entries, the first t behind the next -/
structure Look (rows : Rows) (i : Nat) (kvs ls : List (List Key × V)) (u t : Nat) : Prop where
  a : LeastA rows (i + 1) ls
  b : ∀ (j : Nat) (zs : List Int) (v : Int) (m : Nat) (h : Int), (j < u ∨ (j = u ∧ m < t)) → (∃ x, kvs[j]? = some (keyI zs, x)) → valV kvs (keyI zs) = some (.int v) → (canAt rows i)[m]? = some h → h ∉ zs → HasK ls (zs ++ [h]) (v + cost rows i h)
theorem Look.zero (rows : Rows) (i : Nat) (kvs : List (List Key × V)) : Look rows i kvs [] 0 0 := ⟨⟨fun p hp => absurd hp (by simp)⟩, fun j zs v m h c => absurd c (by omega)⟩
theorem Look.next {rows : Rows} {i u : Nat} {kvs ls : List (List Key × V)} (L : Look rows i kvs ls u (canAt rows i).length) : Look rows i kvs ls (u + 1) 0 :=
  ⟨L.a, fun j zs v m h c e1 e2 e3 => L.b j zs v m h (by
    have := (List.getElem?_eq_some_iff.mp e3).1
    omega) e1 e2 e3⟩
/-- an hour that is there already -/
theorem Look.skip {rows : Rows} {i u t : Nat} {kvs ls : List (List Key × V)} {zs : List Int} {x : V} {h : Int} (L : Look rows i kvs ls u t) (hk : kvs[u]? = some (keyI zs, x)) (hh : (canAt rows i)[t]? = some h) (ht : h ∈ zs) : Look rows i kvs ls u (t + 1) :=
  ⟨L.a, fun j ys v m g c e1 e2 e3 ng => by
    by_cases z : j < u ∨ (j = u ∧ m < t)
    · exact L.b j ys v m g z e1 e2 e3 ng
    · obtain ⟨rfl, rfl⟩ : j = u ∧ m = t := by omega
      obtain ⟨x2, e1⟩ := e1
      rw [hk] at e1
      have ek := keyI_inj (Prod.mk.inj (Option.some.inj e1)).1
      rw [hh] at e3
      rw [← ek, ← Option.some.inj e3] at ng
      exact absurd ht ng⟩
theorem Look.put {rows : Rows} {i u t : Nat} {kvs ls : List (List Key × V)} {zs ss : List Int} {x : V} {h v w : Int} (A : LeastA rows i kvs) (L : Look rows i kvs ls u t) (hk : kvs[u]? = some (keyI zs, x)) (hv : valV kvs (keyI zs) = some (.int v)) (hh : (canAt rows i)[t]? = some h) (nh : h ∉ zs)
    (s : ss.Pairwise (· ≤ ·)) (p : ss.Perm (zs ++ [h])) (hw : w = (match valV ls (keyI ss) with | some (.int g) => if v + cost rows i h < g then v + cost rows i h else g | _ => v + cost rows i h)) : Look rows i kvs (putK ls (keyI ss) (.int w)) u (t + 1) := by
  obtain ⟨p0, hp0, e0, e0'⟩ := valV_mem hv
  obtain ⟨zs', ys, k1, s1, w1, pz, c1⟩ := A.ex p0 hp0
  obtain rfl : zs = zs' := keyI_inj (e0.symm.trans k1)
  have cv : v = costI rows i ys := V.int.inj (e0'.symm.trans c1)
  have hm := List.mem_of_getElem? hh
  have wy : Ways rows (i + 1) (ys ++ [h]) := w1.snoc hm fun z => nh (pz.mem_iff.mpr z)
  have cy : v + cost rows i h = costI rows (i + 1) (ys ++ [h]) := by rw [costI_snoc w1.l, cv]
  have ps : ss.Perm (ys ++ [h]) := p.trans (pz.append_right [h])
  have wle : w ≤ v + cost rows i h := by
    rw [hw]
    split
    · exact (min_le _ _).1
    · exact Int.le_refl _
  have wold : ∀ g : Int, valV ls (keyI ss) = some (.int g) → w ≤ g := fun g e => by
    rw [hw, e]
    exact (min_le _ _).2
  refine ⟨?_, fun j xs y m g c e1 e2 e3 ng => ?_⟩
  · rcases hg : valV ls (keyI ss) with _ | g
    · rw [hg] at hw
      rw [hw, cy]
      exact L.a.put s wy ps
    · obtain ⟨q, hq, f1, f2⟩ := valV_mem hg
      obtain ⟨zs2, ys2, k2, s2, w2, p2, c2⟩ := L.a.ex q hq
      obtain rfl : ss = zs2 := keyI_inj (f1.symm.trans k2)
      have eg : g = .int (costI rows (i + 1) ys2) := f2.symm.trans c2
      rw [hg, eg] at hw
      dsimp only at hw
      by_cases z : v + cost rows i h < costI rows (i + 1) ys2
      · rw [if_pos z] at hw
        rw [hw, cy]
        exact L.a.put s wy ps
      · rw [if_neg z] at hw
        rw [hw]
        exact L.a.put s w2 p2
  · by_cases z : j < u ∨ (j = u ∧ m < t)
    · exact (L.b j xs y m g z e1 e2 e3 ng).put wold
    · obtain ⟨rfl, rfl⟩ : j = u ∧ m = t := by omega
      obtain ⟨x2, e1⟩ := e1
      rw [hk] at e1
      obtain rfl : zs = xs := keyI_inj (Prod.mk.inj (Option.some.inj e1)).1
      rw [hh] at e3
      obtain rfl : h = g := Option.some.inj e3
      rw [hv] at e2
      obtain rfl : v = y := V.int.inj (Option.some.inj e2)
      exact .new s p wle
/-- all looked at -/
theorem Look.done {rows : Rows} {i : Nat} {kvs ls : List (List Key × V)} (M : Least rows i kvs) (L : Look rows i kvs ls kvs.length 0) : Least rows (i + 1) ls := by
  refine ⟨L.a, fun ys w => ?_⟩
  obtain ⟨xs, h, rfl, w1, hh, nh⟩ := w.init
  obtain ⟨zs, u, s, p, e, l⟩ := M.b xs w1
  obtain ⟨m, hm⟩ := List.mem_iff_getElem?.mp hh
  obtain ⟨q, hq, f1, _⟩ := valV_mem e
  obtain ⟨j, hj⟩ := List.mem_iff_getElem?.mp hq
  have hjl := (List.getElem?_eq_some_iff.mp hj).1
  have r := L.b j zs u m h (.inl hjl) ⟨q.2, by rw [hj, ← f1]⟩ e hm fun z => nh (p.mem_iff.mp z)
  rw [costI_snoc w1.l]
  exact r.perm (p.append_right [h]) (by omega)
theorem Least.zero (rows : Rows) : Least rows 0 [([], .int 0)] := by
  refine ⟨⟨fun p hp => ?_⟩, fun ys w => ?_⟩
  · rw [List.mem_singleton.mp hp]
    exact ⟨[], [], rfl, List.Pairwise.nil, ⟨rfl, List.nodup_nil, fun j hj => absurd hj (Nat.not_lt_zero _)⟩, .refl _, rfl⟩
  · obtain rfl : ys = [] := List.length_eq_zero_iff.mp w.l
    exact ⟨[], 0, List.Pairwise.nil, .refl _, rfl, Int.le_refl _⟩
end CH
end

section
set_option Elab.async false
set_option linter.all false
set_option maxRecDepth 100000
set_option maxHeartbeats 4000000
/-! words, meetings and olds as data; what is told of tables -/
namespace CH
open PySem PySem.Spec PyProof.Rows L2
def mtD (m : Mt) : PyData := .tuple [.tuple (m.ps.map PyData.int), .int m.e, .tuple (m.nds.map PyData.int)]
def oldD : Option Int → PyData
  | none => .none
  | some i => .int i
theorem tints_eqv (xs ys : List Int) : PyData.eqv (.tuple (xs.map PyData.int)) (.tuple (ys.map PyData.int)) = decide (xs = ys) := eqvAll_map int_eqv xs ys
theorem mtD_eqv (m : Mt) : PyData.eqv (mtD m) (mtD m) = true := by
  have e : PyData.eqv (mtD m) (mtD m) = (PyData.eqv (.tuple (m.ps.map PyData.int)) (.tuple (m.ps.map PyData.int)) && (PyData.eqv (.int m.e) (.int m.e) && (PyData.eqv (.tuple (m.nds.map PyData.int)) (.tuple (m.nds.map PyData.int)) && true))) := rfl
  rw [e, tints_eqv, tints_eqv, int_eqv, decide_eq_true rfl, decide_eq_true rfl, decide_eq_true rfl] <;> rfl
theorem eqvAll_self {α : Type} {f : α → PyData} (hf : ∀ a, PyData.eqv (f a) (f a) = true) : ∀ xs : List α, PyData.eqvAll (xs.map f) (xs.map f) = true
  | [] => rfl
  | x :: xs => by
    have e : PyData.eqvAll ((x :: xs).map f) ((x :: xs).map f) = (PyData.eqv (f x) (f x) && PyData.eqvAll (xs.map f) (xs.map f)) := rfl
    rw [e, hf x, eqvAll_self hf xs] <;> rfl
theorem oldD_eqv : ∀ x : Option Int, PyData.eqv (oldD x) (oldD x) = true
  | none => rfl
  | some i => by
    show PyData.eqv (.int i) (.int i) = true
    rw [int_eqv, decide_eq_true rfl]
/-- a table's three lists -/
def tbD (ws : List Wd) (ms : List Mt) (os : List (Option Int)) : PyData := .list [wsD ws, .list (ms.map mtD), .list (os.map oldD)]
theorem tbD_eqv (ws : List Wd) (ms : List Mt) (os : List (Option Int)) : PyData.eqv (tbD ws ms os) (tbD ws ms os) = true := by
  have e : PyData.eqv (tbD ws ms os) (tbD ws ms os) = (PyData.eqv (wsD ws) (wsD ws) && (PyData.eqvAll (ms.map mtD) (ms.map mtD) && (PyData.eqvAll (os.map oldD) (os.map oldD) && true))) := rfl
  rw [e, wsD_eqv, decide_eq_true rfl, eqvAll_self mtD_eqv, eqvAll_self oldD_eqv] <;> rfl
theorem mtD_dp {K : PySem.W.Frag} {H : Hp} {a : Addr} {m : Mt} (h : MAt K H a m) : Dp K H (.ref a) (mtD m) := by
  obtain ⟨p, n, h1, h2, h3⟩ := h.ex
  exact .tup h1 (.cons (.tup h2 (ints_dp _)) (.cons (.int _) (.cons (.tup h3 (ints_dp _)) .nil)))
theorem olds_dp {K : PySem.W.Frag} {H : Hp} : ∀ os : List (Option Int), DpAll K H (os.map oldV) (os.map oldD)
  | [] => .nil
  | none :: os => .cons .non (olds_dp os)
  | some i :: os => .cons (.int i) (olds_dp os)
theorem msD_dp {K : PySem.W.Frag} {H : Hp} {l : Addr} {ms : List Mt} (h : MsAt K H l ms) : Dp K H (.ref l) (.list (ms.map mtD)) := by
  obtain ⟨as, a, b⟩ := h
  refine .lst a ?_
  clear a
  induction b with
  | nil => exact .nil
  | cons r t ih => exact .cons (mtD_dp r) ih
theorem tbD_dp {K : PySem.W.Frag} {H : Hp} {t l a o : Addr} {ws : List Wd} {ms : List Mt} {os : List (Option Int)} (h : SqL K H t [.ref l, .ref a, .ref o]) (hw : WsAt K H l ws) (hm : MsAt K H a ms) (ho : SqL K H o (os.map oldV)) : Dp K H (.ref t) (tbD ws ms os) :=
  .lst h (.cons (wsD_dp hw) (.cons (msD_dp hm) (.cons (.lst ho (olds_dp os)) .nil)))
theorem mts_lay : ∀ ms : List Mt, PyData.canLayAll0 (ms.map mtD) = true
  | [] => rfl
  | m :: ms => by simp only [List.map_cons, PyData.canLayAll0, PyData.canLay0, mtD, ints_lay, mts_lay ms, Bool.and_self]
theorem mts_dep : ∀ ms : List Mt, PyData.depthAll (ms.map mtD) ≤ 2
  | [] => by simp [PyData.depthAll]
  | m :: ms => by
    have ih := mts_dep ms
    simp only [List.map_cons, PyData.depthAll, PyData.depth, mtD, ints_depth]
    omega
theorem olds_lay : ∀ os : List (Option Int), PyData.canLayAll0 (os.map oldD) = true
  | [] => rfl
  | none :: os => by simp only [List.map_cons, PyData.canLayAll0, PyData.canLay0, oldD, olds_lay os, Bool.and_self]
  | some i :: os => by simp only [List.map_cons, PyData.canLayAll0, PyData.canLay0, oldD, olds_lay os, Bool.and_self]
theorem olds_dep : ∀ os : List (Option Int), PyData.depthAll (os.map oldD) = 0
  | [] => by simp [PyData.depthAll]
  | none :: os => by simp only [List.map_cons, PyData.depthAll, PyData.depth, oldD, olds_dep os, Nat.max_self]
  | some i :: os => by simp only [List.map_cons, PyData.depthAll, PyData.depth, oldD, olds_dep os, Nat.max_self]
theorem olds_sh (os : List (Option Int)) : SeqAt.shaped (.list (os.map oldD)) = true := by
  unfold SeqAt.shaped
  simp only [PyData.canLay0, olds_lay, PyData.depth, olds_dep]
  rfl
theorem tbD_sh {ws : List Wd} (ms : List Mt) (os : List (Option Int)) (ok : ∀ x ∈ ws, x.ok) : SeqAt.shaped (tbD ws ms os) = true := by
  unfold SeqAt.shaped tbD wsD
  have e1 : (PyData.list [.list (ws.map wdD), .list (ms.map mtD), .list (os.map oldD)]).canLay0 = true := by
    simp only [PyData.canLay0, PyData.canLayAll0, wds_lay ws ok, mts_lay, olds_lay, Bool.and_self]
  have e2 : (PyData.list [.list (ws.map wdD), .list (ms.map mtD), .list (os.map oldD)]).depth ≤ 64 := by
    have := wds_dep ws
    have := mts_dep ms
    simp only [PyData.depth, PyData.depthAll, olds_dep]
    omega
  rw [e1, decide_eq_true e2]
  rfl
end CH
end

section
set_option Elab.async false
set_option linter.all false
set_option maxRecDepth 100000
set_option maxHeartbeats 4000000
namespace CH
open PySem PySem.Spec PyProof.Rows L2
open GxR (TabB TabG Tabbed)
section
variable {P : Program} {w : World} {K : PySem.W.Frag} {mg : Str → Option Value} {base : Heap} {c aA : Addr}
abbrev st_is_whole : Stmt := top 20
abbrev nm_is_whole : List Str := ["value"]
theorem sc_is_whole : FnScope nm_is_whole ["value"] (defScope st_is_whole) := C8.fnScope_by (by decide +kernel)
def sp_is_whole : Sp := fun vs H Q _ => ∃ (v : Int), vs = [.int v] ∧ Q (.bl true) H
theorem ok_is_whole (D : DefT K mg "is_whole" st_is_whole c) (T : Tx K mg aA) : C8.Cal P w K mg base 1 "is_whole" sp_is_whole [] := by
  refine cal_of D sc_is_whole (fun _ _ _ _ _ _ us hl => match us, hl with | [_], _ => rfl) (fun vs H Q E h => ?_) (fun f A outer s H vs Q E hr h => ?_)
  · obtain ⟨v, rfl, _⟩ := h
    rfl
  · obtain ⟨v, rfl, q⟩ := h
    have nd := sc_is_whole.nd
    refine ⟨_, (pss_one (ps_ret (pe_and (pe_callB call_isi (by rfl) T.z_isinstance (by decide +kernel) (pa_cons (pv 0) (pa_cons (pe_bltn (v := .ty "int") (by rfl) T.z_int (by decide +kernel) rfl) pa_nil))) (pe_one (pe_not (pe_callB call_isi (by rfl) T.z_isinstance (by decide +kernel) (pa_cons (pv 0) (pa_cons (pe_bltn (v := .ty "bool") (by rfl) T.z_bool (by decide +kernel) rfl) pa_nil)))))))), ?_⟩
    refine ⟨_, rfl, .int v, .ty "int", .type "int", .type "int", true, rfl, .ty _, .base (.int v), kit_ty (by decide +kernel), true, rfl, ?_⟩
    refine iteT ⟨_, rfl, .int v, .ty "bool", .type "int", .type "bool", false, rfl, .ty _, .base (.int v), kit_ty (by decide +kernel), false, rfl, ?_⟩
    exact q
abbrev st_is_number : Stmt := top 21
abbrev nm_is_number : List Str := ["value", "least", "most"]
theorem sc_is_number : FnScope nm_is_number ["value", "least", "most"] (defScope st_is_number) := C8.fnScope_by (by decide +kernel)
def sp_is_number : Sp := fun vs H Q _ => ∃ (v lo hi : Int), vs = [.int v, .int lo, .int hi] ∧ Q (.bl (decide (lo ≤ v ∧ v ≤ hi))) H
theorem ok_is_number (D : DefT K mg "is_number" st_is_number c) (f_is_whole : C8.Cal P w K mg base 1 "is_whole" sp_is_whole []) : C8.Cal P w K mg base 2 "is_number" sp_is_number [] := by
  refine cal_of D sc_is_number (fun _ _ _ _ _ _ us hl => match us, hl with | [_, _, _], _ => rfl) (fun vs H Q E h => ?_) (fun f A outer s H vs Q E hr h => ?_)
  · obtain ⟨v, lo, hi, rfl, _⟩ := h
    rfl
  · obtain ⟨v, lo, hi, rfl, q⟩ := h
    have nd := sc_is_number.nd
    refine ⟨_, (pss_one (ps_ret (pe_and (C8.pe_c f_is_whole hr (by first | decide | exact hkp) (by rfl) (pa_cons (pv 0) pa_nil)) (pe_one (pe_chain op_le op_le (pv 1) (pv 0) (pv 2)))))), ?_⟩
    refine ⟨_, rfl, v, rfl, true, rfl, iteT ?_⟩
    refine ⟨_, rfl, _, rfl, _, _, rfl, rfl, _, rfl, ?_⟩
    by_cases h1 : lo ≤ v
    · rw [decide_eq_true h1]
      refine iteT ⟨_, rfl, _, _, rfl, rfl, ?_⟩
      rw [show decide (lo ≤ v ∧ v ≤ hi) = decide (v ≤ hi) by simp [h1]] at q
      exact q
    · rw [decide_eq_false h1]
      refine iteF ?_
      rw [show decide (lo ≤ v ∧ v ≤ hi) = false by simp [h1]] at q
      exact q
abbrev st_is_hand : Stmt := top 22
abbrev nm_is_hand : List Str := ["value"]
theorem sc_is_hand : FnScope nm_is_hand ["value"] (defScope st_is_hand) := C8.fnScope_by (by decide +kernel)
def sp_is_hand : Sp := fun vs H Q _ => ∃ (v : Int), vs = [.int v] ∧ Q (.bl (decide (0 ≤ v ∧ v ≤ 3))) H
theorem ok_is_hand (D : DefT K mg "is_hand" st_is_hand c) (T : Tx K mg aA) (f_is_number : C8.Cal P w K mg base 2 "is_number" sp_is_number []) : C8.Cal P w K mg base 3 "is_hand" sp_is_hand [] := by
  refine cal_of D sc_is_hand (fun _ _ _ _ _ _ us hl => match us, hl with | [_], _ => rfl) (fun vs H Q E h => ?_) (fun f A outer s H vs Q E hr h => ?_)
  · obtain ⟨v, rfl, _⟩ := h
    rfl
  · obtain ⟨v, rfl, q⟩ := h
    have nd := sc_is_hand.nd
    refine ⟨_, (pss_one (ps_ret (C8.pe_c f_is_number hr (by first | decide | exact hkp) (by rfl) (pa_cons (pv 0) (pa_cons pe_int (pa_cons (pe_op op_sub (C8.pe_gc (by rfl) T.c_HANDS) pe_int) pa_nil)))))), ?_⟩
    exact ⟨_, rfl, _, _, rfl, rfl, v, 0, 3, rfl, q⟩
abbrev st_is_person : Stmt := top 23
abbrev nm_is_person : List Str := ["value"]
theorem sc_is_person : FnScope nm_is_person ["value"] (defScope st_is_person) := C8.fnScope_by (by decide +kernel)
def sp_is_person : Sp := fun vs H Q _ => ∃ (v : Int), vs = [.int v] ∧ Q (.bl (decide (0 ≤ v ∧ v ≤ 7))) H
theorem ok_is_person (D : DefT K mg "is_person" st_is_person c) (T : Tx K mg aA) (f_is_number : C8.Cal P w K mg base 2 "is_number" sp_is_number []) : C8.Cal P w K mg base 3 "is_person" sp_is_person [] := by
  refine cal_of D sc_is_person (fun _ _ _ _ _ _ us hl => match us, hl with | [_], _ => rfl) (fun vs H Q E h => ?_) (fun f A outer s H vs Q E hr h => ?_)
  · obtain ⟨v, rfl, _⟩ := h
    rfl
  · obtain ⟨v, rfl, q⟩ := h
    have nd := sc_is_person.nd
    refine ⟨_, (pss_one (ps_ret (C8.pe_c f_is_number hr (by first | decide | exact hkp) (by rfl) (pa_cons (pv 0) (pa_cons pe_int (pa_cons (pe_op op_sub (C8.pe_gc (by rfl) T.c_PEOPLE) pe_int) pa_nil)))))), ?_⟩
    exact ⟨_, rfl, _, _, rfl, rfl, v, 0, 7, rfl, q⟩
abbrev st_is_hour : Stmt := top 24
abbrev nm_is_hour : List Str := ["value"]
theorem sc_is_hour : FnScope nm_is_hour ["value"] (defScope st_is_hour) := C8.fnScope_by (by decide +kernel)
def sp_is_hour : Sp := fun vs H Q _ => ∃ (v : Int), vs = [.int v] ∧ Q (.bl (decide (0 ≤ v ∧ v ≤ 11))) H
theorem ok_is_hour (D : DefT K mg "is_hour" st_is_hour c) (T : Tx K mg aA) (f_is_number : C8.Cal P w K mg base 2 "is_number" sp_is_number []) : C8.Cal P w K mg base 3 "is_hour" sp_is_hour [] := by
  refine cal_of D sc_is_hour (fun _ _ _ _ _ _ us hl => match us, hl with | [_], _ => rfl) (fun vs H Q E h => ?_) (fun f A outer s H vs Q E hr h => ?_)
  · obtain ⟨v, rfl, _⟩ := h
    rfl
  · obtain ⟨v, rfl, q⟩ := h
    have nd := sc_is_hour.nd
    refine ⟨_, (pss_one (ps_ret (C8.pe_c f_is_number hr (by first | decide | exact hkp) (by rfl) (pa_cons (pv 0) (pa_cons pe_int (pa_cons (pe_op op_sub (C8.pe_gc (by rfl) T.c_HOURS) pe_int) pa_nil)))))), ?_⟩
    exact ⟨_, rfl, _, _, rfl, rfl, v, 0, 11, rfl, q⟩
abbrev st_is_answer : Stmt := top 25
abbrev nm_is_answer : List Str := ["value"]
theorem sc_is_answer : FnScope nm_is_answer ["value"] (defScope st_is_answer) := C8.fnScope_by (by decide +kernel)
def sp_is_answer : Sp := fun vs H Q _ => ∃ (x : Str), vs = [.str x] ∧ Q (.bl (decide (x ∈ ansL))) H
theorem ok_is_answer (D : DefT K mg "is_answer" st_is_answer c) (T : Tx K mg aA) : C8.Cal P w K mg base 1 "is_answer" sp_is_answer [] := by
  refine cal_of D sc_is_answer (fun _ _ _ _ _ _ us hl => match us, hl with | [_], _ => rfl) (fun vs H Q E h => ?_) (fun f A outer s H vs Q E hr h => ?_)
  · obtain ⟨x, rfl, _⟩ := h
    rfl
  · obtain ⟨x, rfl, q⟩ := h
    have nd := sc_is_answer.nd
    refine ⟨_, (pss_one (ps_ret (pe_and (pe_callB call_isi (by rfl) T.z_isinstance (by decide +kernel) (pa_cons (pv 0) (pa_cons (pe_bltn (v := .ty "str") (by rfl) T.z_str (by decide +kernel) rfl) pa_nil))) (pe_one (pe_cmpR op_in_seq (pv 0) (C8.pe_gc (by rfl) T.c_ANSWERS) (by rfl)))))), ?_⟩
    refine ⟨_, rfl, .str x, .ty "str", .type "str", .type "str", true, rfl, .ty _, .base (.str x), kit_ty (by decide +kernel), true, rfl, ?_⟩
    refine iteT ⟨_, rfl, aA, ansL.map V.str, rfl, .inr (T.hA H), rfl, flat_str _, ?_⟩
    rw [if_neg Bool.false_ne_true, inV_str]
    exact q
end
end CH
end

section
set_option Elab.async false
set_option linter.all false
set_option maxRecDepth 100000
set_option maxHeartbeats 4000000
/-! the checks, asked of things of many sorts -/
namespace CH
open PySem PySem.Spec PyProof.Rows L2
/-- it tells whether the thing is so -/
def sp_th (f : Th → Bool) : Sp := fun vs H Q _ => ∃ (d : Th) (v : V), vs = [v] ∧ At H d v ∧ Q (.bl (f d)) H
theorem len_th {f : Th → Bool} {vs : List V} {H : Hp} {Q : VK} {E : XK} (h : sp_th f vs H Q E) : vs.length = 1 := by
  obtain ⟨d, v, rfl, _⟩ := h
  rfl
def sp_numT : Sp := fun vs H Q _ => ∃ (d : Th) (v : V) (lo hi : Int), vs = [v, .int lo, .int hi] ∧ At H d v ∧ Q (.bl (numB d lo hi)) H
section
variable {P : Program} {w : World} {K : PySem.W.Frag} {mg : Str → Option Value} {base : Heap} {c aA : Addr}
theorem okT_is_whole (D : DefT K mg "is_whole" st_is_whole c) (T : Tx K mg aA) : C8.Cal P w K mg base 1 "is_whole" (sp_th wholeB) [] := by
  refine cal_of D sc_is_whole (fun _ _ _ _ _ _ us hl => match us, hl with | [_], _ => rfl) (fun vs H Q E h => len_th h) (fun f A outer s H vs Q E hr h => ?_)
  obtain ⟨d, v, rfl, hv, q⟩ := h
  have nd := sc_is_whole.nd
  refine ⟨_, (pss_one (ps_ret (pe_and (pe_callB call_isi (by rfl) T.z_isinstance (by decide +kernel) (pa_cons (pv 0) (pa_cons (pe_bltn (v := .ty "int") (by rfl) T.z_int (by decide +kernel) rfl) pa_nil))) (pe_one (pe_not (pe_callB call_isi (by rfl) T.z_isinstance (by decide +kernel) (pa_cons (pv 0) (pa_cons (pe_bltn (v := .ty "bool") (by rfl) T.z_bool (by decide +kernel) rfl) pa_nil)))))))), ?_⟩
  rw [wholeB_eq] at q
  refine ⟨_, rfl, v, .ty "int", _, .type "int", d.isI, rfl, .ty _, hv.ty, kitI K d, _, rfl, iteB (fun e => ?_) (fun e => ?_)⟩
  · rw [e, Bool.true_and] at q
    exact ⟨_, rfl, v, .ty "bool", _, .type "bool", d.isB, rfl, .ty _, hv.ty, kitB' K d, _, rfl, q⟩
  · rw [e, Bool.false_and] at q
    exact q
theorem okT_is_number (D : DefT K mg "is_number" st_is_number c) (f_is_whole : C8.Cal P w K mg base 1 "is_whole" (sp_th wholeB) []) : C8.Cal P w K mg base 2 "is_number" sp_numT [] := by
  refine cal_of D sc_is_number (fun _ _ _ _ _ _ us hl => match us, hl with | [_, _, _], _ => rfl) (fun vs H Q E h => ?_) (fun f A outer s H vs Q E hr h => ?_)
  · obtain ⟨d, v, lo, hi, rfl, _⟩ := h
    rfl
  · obtain ⟨d, v, lo, hi, rfl, hv, q⟩ := h
    have nd := sc_is_number.nd
    refine ⟨_, (pss_one (ps_ret (pe_and (C8.pe_c f_is_whole hr (by first | decide | exact hkp) (by rfl) (pa_cons (pv 0) pa_nil)) (pe_one (pe_chain op_le op_le (pv 1) (pv 0) (pv 2)))))), ?_⟩
    refine ⟨_, rfl, d, v, rfl, hv, _, rfl, iteB (fun e => ?_) (fun e => ?_)⟩
    · obtain ⟨i, rfl⟩ := wholeB_int e
      obtain rfl : v = .int i := hv
      refine ⟨_, rfl, _, rfl, _, _, rfl, rfl, _, rfl, ?_⟩
      by_cases h1 : lo ≤ i
      · rw [decide_eq_true h1]
        refine iteT ⟨_, rfl, _, _, rfl, rfl, ?_⟩
        rw [show numB (.int i) lo hi = decide (i ≤ hi) by show decide (lo ≤ i ∧ i ≤ hi) = _; simp [h1]] at q
        exact q
      · rw [decide_eq_false h1]
        refine iteF ?_
        rw [show numB (.int i) lo hi = false by show decide (lo ≤ i ∧ i ≤ hi) = _; simp [h1]] at q
        exact q
    · rw [numB_not e] at q
      exact q
theorem okT_is_hand (D : DefT K mg "is_hand" st_is_hand c) (T : Tx K mg aA) (f_is_number : C8.Cal P w K mg base 2 "is_number" sp_numT []) : C8.Cal P w K mg base 3 "is_hand" (sp_th handB) [] := by
  refine cal_of D sc_is_hand (fun _ _ _ _ _ _ us hl => match us, hl with | [_], _ => rfl) (fun vs H Q E h => len_th h) (fun f A outer s H vs Q E hr h => ?_)
  obtain ⟨d, v, rfl, hv, q⟩ := h
  have nd := sc_is_hand.nd
  refine ⟨_, (pss_one (ps_ret (C8.pe_c f_is_number hr (by first | decide | exact hkp) (by rfl) (pa_cons (pv 0) (pa_cons pe_int (pa_cons (pe_op op_sub (C8.pe_gc (by rfl) T.c_HANDS) pe_int) pa_nil)))))), ?_⟩
  exact ⟨_, rfl, _, _, rfl, rfl, d, v, 0, 3, rfl, hv, q⟩
theorem okT_is_person (D : DefT K mg "is_person" st_is_person c) (T : Tx K mg aA) (f_is_number : C8.Cal P w K mg base 2 "is_number" sp_numT []) : C8.Cal P w K mg base 3 "is_person" (sp_th personB) [] := by
  refine cal_of D sc_is_person (fun _ _ _ _ _ _ us hl => match us, hl with | [_], _ => rfl) (fun vs H Q E h => len_th h) (fun f A outer s H vs Q E hr h => ?_)
  obtain ⟨d, v, rfl, hv, q⟩ := h
  have nd := sc_is_person.nd
  refine ⟨_, (pss_one (ps_ret (C8.pe_c f_is_number hr (by first | decide | exact hkp) (by rfl) (pa_cons (pv 0) (pa_cons pe_int (pa_cons (pe_op op_sub (C8.pe_gc (by rfl) T.c_PEOPLE) pe_int) pa_nil)))))), ?_⟩
  exact ⟨_, rfl, _, _, rfl, rfl, d, v, 0, 7, rfl, hv, q⟩
theorem okT_is_hour (D : DefT K mg "is_hour" st_is_hour c) (T : Tx K mg aA) (f_is_number : C8.Cal P w K mg base 2 "is_number" sp_numT []) : C8.Cal P w K mg base 3 "is_hour" (sp_th hourB) [] := by
  refine cal_of D sc_is_hour (fun _ _ _ _ _ _ us hl => match us, hl with | [_], _ => rfl) (fun vs H Q E h => len_th h) (fun f A outer s H vs Q E hr h => ?_)
  obtain ⟨d, v, rfl, hv, q⟩ := h
  have nd := sc_is_hour.nd
  refine ⟨_, (pss_one (ps_ret (C8.pe_c f_is_number hr (by first | decide | exact hkp) (by rfl) (pa_cons (pv 0) (pa_cons pe_int (pa_cons (pe_op op_sub (C8.pe_gc (by rfl) T.c_HOURS) pe_int) pa_nil)))))), ?_⟩
  exact ⟨_, rfl, _, _, rfl, rfl, d, v, 0, 11, rfl, hv, q⟩
theorem okT_is_answer (D : DefT K mg "is_answer" st_is_answer c) (T : Tx K mg aA) : C8.Cal P w K mg base 1 "is_answer" (sp_th ansB) [] := by
  refine cal_of D sc_is_answer (fun _ _ _ _ _ _ us hl => match us, hl with | [_], _ => rfl) (fun vs H Q E h => len_th h) (fun f A outer s H vs Q E hr h => ?_)
  obtain ⟨d, v, rfl, hv, q⟩ := h
  have nd := sc_is_answer.nd
  refine ⟨_, (pss_one (ps_ret (pe_and (pe_callB call_isi (by rfl) T.z_isinstance (by decide +kernel) (pa_cons (pv 0) (pa_cons (pe_bltn (v := .ty "str") (by rfl) T.z_str (by decide +kernel) rfl) pa_nil))) (pe_one (pe_cmpR op_in_seq (pv 0) (C8.pe_gc (by rfl) T.c_ANSWERS) (by rfl)))))), ?_⟩
  refine ⟨_, rfl, v, .ty "str", _, .type "str", d.isS, rfl, .ty _, hv.ty, kitS K d, _, rfl, iteB (fun e => ?_) (fun e => ?_)⟩
  · obtain ⟨x, rfl⟩ := isS_str e
    obtain rfl : v = .str x := hv
    refine ⟨_, rfl, aA, ansL.map V.str, rfl, .inr (T.hA H), rfl, flat_str _, ?_⟩
    rw [if_neg Bool.false_ne_true, inV_str]
    exact q
  · rw [ansB_not e] at q
    exact q
end
end CH
end

section
set_option Elab.async false
set_option linter.all false
set_option maxRecDepth 100000
set_option maxHeartbeats 4000000
namespace CH
open PySem PySem.Spec PyProof.Rows L2
open GxR (TabB TabG Tabbed)
section
variable {P : Program} {w : World} {K : PySem.W.Frag} {mg : Str → Option Value} {base : Heap} {c aA : Addr}
abbrev st_is_word : Stmt := top 26
abbrev nm_is_word : List Str := ["value", "count", "hand", "person", "hour", "answer"]
theorem sc_is_word : FnScope nm_is_word ["value"] (defScope st_is_word) := C8.fnScope_by (by decide +kernel)
/-- a word, or not quite one -/
def sp_is_word (K : PySem.W.Frag) : Sp := fun vs H Q _ => ∃ (t : Addr) (x : Wd), vs = [.ref t] ∧ SqT K H t x.V ∧ Q (.bl (decide x.ok)) H
theorem ok_is_word (D : DefT K mg "is_word" st_is_word c) (T : Tx K mg aA) (f_is_number : C8.Cal P w K mg base 2 "is_number" sp_is_number []) (f_is_hand : C8.Cal P w K mg base 3 "is_hand" sp_is_hand []) (f_is_person : C8.Cal P w K mg base 3 "is_person" sp_is_person []) (f_is_hour : C8.Cal P w K mg base 3 "is_hour" sp_is_hour []) (f_is_answer : C8.Cal P w K mg base 1 "is_answer" sp_is_answer []) :
    C8.Cal P w K mg base 4 "is_word" (sp_is_word K) [] := by
  refine cal_of D sc_is_word (fun _ _ _ _ _ _ us hl => match us, hl with | [_], _ => rfl) (fun vs H Q E h => ?_) (fun f A outer s H vs Q E hr h => ?_)
  · obtain ⟨t, x, rfl, _⟩ := h
    rfl
  · obtain ⟨t, x, rfl, ht, q⟩ := h
    have nd := sc_is_word.nd
    refine ⟨_, (pss_cons (ps_if (PW.pt (pw_or (pt_not (pt_val (pe_callB call_isi (by rfl) T.z_isinstance (by decide +kernel) (pa_cons (pv 0) (pa_cons (pe_bltn (v := .ty "tuple") (by rfl) T.z_tuple (by decide +kernel) rfl) pa_nil))))) (pw_or1 (pt_cmpR op_ne (pe_callB call_len_seq (by rfl) T.z_len PySem.boot_len (pa_cons (pv 0) pa_nil)) pe_int (nomark _))))) (pss_one (ps_ret pe_bl)) pss_nil)
      (pss_cons (ps_asg (pv 0) (pg_tup (by rfl) (pgs_cons (pg_name (i := 1) nd rfl (Or.inl rfl)) (pgs_cons (pg_name (i := 2) nd rfl (Or.inl rfl)) (pgs_cons (pg_name (i := 3) nd rfl (Or.inl rfl)) (pgs_cons (pg_name (i := 4) nd rfl (Or.inl rfl)) (pgs_cons (pg_name (i := 5) nd rfl (Or.inl rfl)) pgs_nil)))))))
      (pss_one (ps_ret (pe_and (C8.pe_c f_is_number hr (by first | decide | exact hkp) (by rfl) (pa_cons (pv 1) (pa_cons pe_int (pa_cons (C8.pe_gc (by rfl) T.c_COUNTS) pa_nil)))) (pe_and (C8.pe_c f_is_hand hr (by first | decide | exact hkp) (by rfl) (pa_cons (pv 2) pa_nil)) (pe_and (C8.pe_c f_is_person hr (by first | decide | exact hkp) (by rfl) (pa_cons (pv 3) pa_nil)) (pe_and (C8.pe_c f_is_hour hr (by first | decide | exact hkp) (by rfl) (pa_cons (pv 4) pa_nil)) (pe_one (C8.pe_c f_is_answer hr (by first | decide | exact hkp) (by rfl) (pa_cons (pv 5) pa_nil))))))))))), ?_⟩
    refine ⟨_, rfl, .ref t, .ty "tuple", .type "tuple", .type "tuple", true, rfl, .ty _, tyx_tup ht, kit_ty (by decide +kernel), true, rfl, iteF ?_⟩
    refine ⟨_, rfl, t, _, rfl, .inr ht, rfl, _, rfl, iteF ?_⟩
    have no : ¬ x.ok → Q (.bl false) H := fun z => by
      rw [decide_eq_false z] at q
      exact q
    -- count, hand, person, hour, answer = value
    refine ⟨_, rfl, t, _, rfl, ht, rfl, _, _, rfl, _, _, rfl, _, _, rfl, _, _, rfl, _, _, rfl, rfl, ?_⟩
    by_cases o1 : 1 ≤ x.c ∧ x.c ≤ 99
    case neg => exact ⟨_, rfl, x.c, 1, 99, rfl, false, blF o1, iteF (no fun z => o1 ⟨z.1, z.2.1⟩)⟩
    refine ⟨_, rfl, x.c, 1, 99, rfl, true, blT o1, iteT ?_⟩
    by_cases o2 : 0 ≤ x.h ∧ x.h ≤ 3
    case neg => exact ⟨_, rfl, x.h, rfl, false, blF o2, iteF (no fun z => o2 ⟨z.2.2.1, z.2.2.2.1⟩)⟩
    refine ⟨_, rfl, x.h, rfl, true, blT o2, iteT ?_⟩
    by_cases o3 : 0 ≤ x.p ∧ x.p ≤ 7
    case neg => exact ⟨_, rfl, x.p, rfl, false, blF o3, iteF (no fun z => o3 ⟨z.2.2.2.2.1, z.2.2.2.2.2.1⟩)⟩
    refine ⟨_, rfl, x.p, rfl, true, blT o3, iteT ?_⟩
    by_cases o4 : 0 ≤ x.o ∧ x.o ≤ 11
    case neg => exact ⟨_, rfl, x.o, rfl, false, blF o4, iteF (no fun z => o4 ⟨z.2.2.2.2.2.2.1, z.2.2.2.2.2.2.2.1⟩)⟩
    refine ⟨_, rfl, x.o, rfl, true, blT o4, iteT ?_⟩
    refine ⟨_, rfl, x.a, rfl, ?_⟩
    by_cases o9 : x.a ∈ ansL
    · rw [blT o9]
      rw [decide_eq_true (show x.ok from ⟨o1.1, o1.2, o2.1, o2.2, o3.1, o3.2, o4.1, o4.2, o9⟩)] at q
      exact q
    · rw [blF o9]
      exact no fun z => o9 z.2.2.2.2.2.2.2.2
abbrev st_copied_words : Stmt := top 27
abbrev nm_copied_words : List Str := ["words", "copies", "word", "count", "hand", "person", "hour", "answer"]
theorem sc_copied_words : FnScope nm_copied_words ["words"] (defScope st_copied_words) := C8.fnScope_by (by decide +kernel)
/-- words, eighty at most: a new list of them; else BadWords -/
def sp_copied_words (K : PySem.W.Frag) (cB : Addr) : Sp := fun vs H Q E => ∃ (l : Addr) (ws : List Wd), vs = [.ref l] ∧ WsAt K H l ws ∧ ws.length ≤ 1000 ∧
  (ws.length ≤ 80 → (∀ x ∈ ws, x.ok) → ∀ (H' : Hp) (r : Addr) (ts : List Addr), Kx H H' → H r = none → H' r = some (.lst (ts.map V.ref)) → TAt H' ts ws → Q (.ref r) H') ∧
  ((80 < ws.length ∨ ∃ x ∈ ws, ¬ x.ok) → ∀ H', Kx H H' → E (.ref cB) none H')
theorem ok_copied_words {cB : Addr} (D : DefT K mg "copied_words" st_copied_words c) (T : Tx K mg aA) (e_BadWords : Exn K mg "BadWords" cB) (f_is_word : C8.Cal P w K mg base 4 "is_word" (sp_is_word K) []) : CalX P w K mg base 5 "copied_words" (sp_copied_words K cB) := by
  refine calX_of D sc_copied_words (fun _ _ _ _ _ _ us hl => match us, hl with | [_], _ => rfl) (fun vs H Q E h => ?_) (fun f A outer s H vs Q E hr h => ?_)
  · obtain ⟨l, ws, rfl, _⟩ := h
    rfl
  · obtain ⟨l, ws, rfl, ⟨ts, hl, hw⟩, h1000, q, qe⟩ := h
    have nd := sc_copied_words.nd
    have len := paired_len hw
    refine ⟨_, (pss_cons (ps_if (PW.pt (pw_or (pt_not (pt_val (pe_callB call_isi (by rfl) T.z_isinstance (by decide +kernel) (pa_cons (pv 0) (pa_cons (pe_bltn (v := .ty "list") (by rfl) T.z_list (by decide +kernel) rfl) pa_nil))))) (pw_or1 (pt_cmpR op_gt (pe_callB call_len_seq (by rfl) T.z_len PySem.boot_len (pa_cons (pv 0) pa_nil)) (C8.pe_gc (by rfl) T.c_MOST_WORDS) (nomark _))))) (pss_one (L2N.ps_raise rfl (L2N.takes_of rfl rfl rfl rfl) (L2N.pmk_own PySem.F.excBase_ValueError e_BadWords.q e_BadWords.g e_BadWords.k (raises_own e_BadWords.b e_BadWords.t) (by rfl)))) pss_nil)
      (pss_cons (ps_set (i := 1) nd rfl (Or.inl rfl) (pe_lst pa_nil))
      (pss_cons (ps_for (passes_of rfl) rfl (pi_list (pv 0)) (pg_name (i := 2) nd rfl (Or.inl rfl)) (pss_cons (ps_if (pt_not (pt_val (C8.pe_c f_is_word hr (by first | decide | exact hkp) (by rfl) (pa_cons (pv 2) pa_nil)))) (pss_one (L2N.ps_raise rfl (L2N.takes_of rfl rfl rfl rfl) (L2N.pmk_own PySem.F.excBase_ValueError e_BadWords.q e_BadWords.g e_BadWords.k (raises_own e_BadWords.b e_BadWords.t) (by rfl)))) pss_nil)
      (pss_cons (ps_asg (pv 2) (pg_tup (by rfl) (pgs_cons (pg_name (i := 3) nd rfl (Or.inl rfl)) (pgs_cons (pg_name (i := 4) nd rfl (Or.inl rfl)) (pgs_cons (pg_name (i := 5) nd rfl (Or.inl rfl)) (pgs_cons (pg_name (i := 6) nd rfl (Or.inl rfl)) (pgs_cons (pg_name (i := 7) nd rfl (Or.inl rfl)) pgs_nil)))))))
      (pss_one (ps_expr (pe_bm PySem.F.plainAttrs_list PySem.F.slot_list_append PySem.F.type_list_append mt_append (pv 1) (pa_cons (pe_tup (pa_cons (pv 3) (pa_cons (pv 4) (pa_cons (pv 5) (pa_cons (pv 6) (pa_cons (pv 7) pa_nil)))))) pa_nil)))))))
      (pss_one (ps_ret (pv 1)))))), ?_⟩
    refine ⟨_, rfl, .ref l, .ty "list", .type "list", .type "list", true, rfl, .ty _, tyx_lst hl, kit_ty (by decide +kernel), true, rfl, iteF ?_⟩
    refine ⟨_, rfl, l, _, rfl, .inl hl, _, 80, rfl, rfl, _, rfl, ?_⟩
    rw [List.length_map]
    by_cases h80 : 80 < ws.length
    · rw [show decide ((ts.length : Int) > 80) = true from decide_eq_true (by omega)]
      exact iteT (qe (.inl h80) _ (Kx.refl H))
    rw [show decide ((ts.length : Int) > 80) = false from decide_eq_false (by omega)]
    refine iteF ?_
    -- copies = []
    refine ⟨Nat.zero_le _, fun r nr => ?_⟩
    have k0 : Kx H (upd H r (.lst [])) := Kx.new nr
    refine ⟨_, rfl, l, rfl, ⟨_, k0.l hl⟩, for_list (K := K) (a := l) (xs := ts.map V.ref) (fun i σ H2 => ∃ (rs : List Addr) (v2 v3 v4 v5 v6 v7 : Option V), σ = [some (.ref l), some (.ref r), v2, v3, v4, v5, v6, v7] ∧ Kx H H2 ∧
        H2 r = some (.lst (rs.map V.ref)) ∧ TAt H2 rs (ws.take i) ∧ ∀ x ∈ ws.take i, x.ok)
      ⟨[], none, none, none, none, none, none, rfl, k0, upd_same, .nil, fun x hx => absurd hx (by simp)⟩ (fun i σ H2 _ ⟨_, _, _, _, _, _, _, _, k2, _⟩ => k2.l hl) ?_ ?_⟩
    · rintro i y σ H2 hi ⟨rs, v2, v3, v4, v5, v6, v7, rfl, k2, hr2, hrs, ok2⟩
      obtain ⟨t, ht, rfl⟩ : ∃ t, ts[i]? = some t ∧ V.ref t = y := by
        rw [List.getElem?_map] at hi
        exact Option.map_eq_some_iff.mp hi
      obtain ⟨x, hx, hsx⟩ := paired_at hw ht
      have hsx2 := k2.t hsx
      by_cases okx : x.ok
      case neg => exact ⟨_, rfl, t, x, rfl, hsx2, false, blF okx, iteT (qe (.inr ⟨x, List.mem_of_getElem? hx, okx⟩) _ k2)⟩
      refine ⟨_, rfl, t, x, rfl, hsx2, true, blT okx, iteF ?_⟩
      refine ⟨_, rfl, t, _, rfl, hsx2, rfl, _, _, rfl, _, _, rfl, _, _, rfl, _, _, rfl, _, _, rfl, rfl, ?_⟩
      refine ⟨_, rfl, .inl ⟨rfl, _, sq_of hr2⟩, _, rfl, _, rfl, _, rfl, _, rfl, _, rfl, (by show 5 ≤ sizeLine; decide), fun p np => ?_⟩
      have k3 : Kx H2 (upd H2 p (.tup x.V)) := Kx.new np
      have nrp : r ≠ p := ne_of_none hr2 np
      have lenr : rs.length ≤ 80 := by
        rw [paired_len hrs, List.length_take]
        omega
      refine ⟨r, rs.map V.ref, _, rfl, rfl, k3.lst hr2, (by rw [List.length_map]; exact lt80 (by omega)), ?_⟩
      have e : ws.take (i + 1) = ws.take i ++ [x] := by rw [List.take_add_one, hx] <;> rfl
      refine ⟨rs ++ [p], _, _, _, _, _, _, rfl, (k2.trans k3).mut nr, ?_, ?_, ?_⟩
      · rw [upd_same, List.map_append]
        rfl
      · rw [e]
        refine paired_snoc ((hrs.k k3).up (k3.lst hr2) (fun _ z => nomatch z)) ?_
        rw [upd_ne nrp.symm, upd_same]
        rfl
      · rw [e]
        intro y hy
        rcases List.mem_append.mp hy with hy | hy
        · exact ok2 y hy
        · rw [List.mem_singleton.mp hy]
          exact okx
    · rintro σ H2 ⟨rs, v2, v3, v4, v5, v6, v7, rfl, k2, hr2, hrs, ok2⟩
      rw [List.length_map, len, List.take_length] at hrs ok2
      exact ⟨_, rfl, q (by omega) ok2 H2 r rs k2 nr hr2 hrs⟩
end
end CH
end

section
set_option Elab.async false
set_option linter.all false
set_option maxRecDepth 100000
set_option maxHeartbeats 4000000
namespace CH
open PySem PySem.Spec PyProof.Rows L2
open GxR (TabB TabG Tabbed)
section
variable {P : Program} {w : World} {K : PySem.W.Frag} {mg : Str → Option Value} {base : Heap} {c aA : Addr}
abbrev st_each_once : Stmt := top 28
abbrev nm_each_once : List Str := ["words", "known", "word", "place"]
theorem sc_each_once : FnScope nm_each_once ["words"] (defScope st_each_once) := C8.fnScope_by (by decide +kernel)
/-- words: a new list, each once, in order; or Unlike -/
def sp_each_once (K : PySem.W.Frag) (cU : Addr) : Sp := fun vs H Q E => ∃ (l : Addr) (ts : List Addr) (ws : List Wd), vs = [.ref l] ∧ SqL K H l (ts.map V.ref) ∧ TAt H ts ws ∧ ws.length ≤ 200 ∧ (∀ x ∈ ws, x.ok) ∧
  (Alike ws → ∀ (H' : Hp) (r : Addr) (ts : List Addr) (us : List Wd), Kx H H' → H r = none → H' r = some (.lst (ts.map V.ref)) → TAt H' ts us → Once ws us → Q (.ref r) H') ∧
  (¬ Alike ws → ∀ H', Kx H H' → E (.ref cU) none H')
theorem ok_each_once {cU : Addr} (D : DefT K mg "each_once" st_each_once c) (T : Tx K mg aA) (e_Unlike : Exn K mg "Unlike" cU) : CalX P w K mg base 1 "each_once" (sp_each_once K cU) := by
  refine calX_of D sc_each_once (fun _ _ _ _ _ _ us hl => match us, hl with | [_], _ => rfl) (fun vs H Q E h => ?_) (fun f A outer s H vs Q E hr h => ?_)
  · obtain ⟨l, ts, ws, rfl, _⟩ := h
    rfl
  · obtain ⟨l, ts, ws, rfl, hl, hw, h200, hok, q, qe⟩ := h
    have nd := sc_each_once.nd
    have hu := hu_of hr
    have len := paired_len hw
    refine ⟨_, (pss_cons (ps_set (i := 1) nd rfl (Or.inl rfl) pe_dnewT)
      (pss_cons (ps_for (passes_of rfl) rfl (pi_list (pv 0)) (pg_name (i := 2) nd rfl (Or.inl rfl)) (pss_cons (ps_set (i := 3) nd rfl (Or.inl rfl) (pe_slice sl_tup (pv 2) po_none (po_some pe_int)))
      (pss_one (ps_if (pt_cmpR (op_neD hr.units) (pe_setdT hu (pv 1) (pv 3) (pv 2) ⟨rfl, rfl, rfl, rfl⟩) (pv 2) (nomark _)) (pss_one (L2N.ps_raise rfl (L2N.takes_of rfl rfl rfl rfl) (L2N.pmk_own PySem.F.excBase_ValueError e_Unlike.q e_Unlike.g e_Unlike.k (raises_own e_Unlike.b e_Unlike.t) (by rfl)))) pss_nil))))
      (pss_one (ps_ret (pe_callB (cr_sortedVals rfl) (by rfl) T.z_sorted (by decide +kernel) (pa_cons (pe_bm0 PySem.F.plainAttrs_dict PySem.F.slot_dict_values PySem.F.type_dict_values mt_valuesT (pv 1)) pa_nil)))))), ?_⟩
    intro d nd0
    have k0 : Kx H (upd H d (.dT [])) := Kx.new nd0
    refine ⟨_, rfl, l, rfl, ⟨_, k0.l hl⟩, for_list (K := K) (a := l) (xs := ts.map V.ref) (fun i σ H2 => ∃ (qs : List (Addr × Wd)) (v2 v3 : Option V), σ = [some (.ref l), some (.ref d), v2, v3] ∧ Kx H H2 ∧
        H2 d = some (.dT (qs.map entW)) ∧ PAt H2 qs ∧ Kept qs (ws.take i) ∧ qs.length ≤ i)
      ⟨[], none, none, rfl, k0, upd_same, fun q z => absurd z (by simp), Kept.nil, Nat.le_refl _⟩ (fun i σ H2 _ ⟨_, _, _, _, k2, _⟩ => k2.l hl) ?_ ?_⟩
    · rintro i y σ H2 hi ⟨qs, v2, v3, rfl, k2, hd2, hp2, kq, hlq⟩
      obtain ⟨t, ht, rfl⟩ : ∃ t, ts[i]? = some t ∧ V.ref t = y := by
        rw [List.getElem?_map] at hi
        exact Option.map_eq_some_iff.mp hi
      obtain ⟨x, hx, hsx⟩ := paired_at hw ht
      have hxm : x ∈ ws := List.mem_of_getElem? hx
      have hi2 : i < ts.length := (List.getElem?_eq_some_iff.mp ht).1
      have e1 : ws.take (i + 1) = ws.take i ++ [x] := by rw [List.take_add_one, hx] <;> rfl
      have hs2 := k2.tup hsx
      -- place = word[:2]
      refine ⟨_, rfl, 2, rfl, t, _, rfl, st_of hs2, not_whole2 x, fun p np => ?_⟩
      have k3 : Kx H2 (upd H2 p (.tup (cutV x.V none (some 2)))) := Kx.new np
      have hpl : (upd H2 p (.tup (cutV x.V none (some 2)))) p = some (.tup ((kW x).map kV)) := by rw [upd_same, cut2]
      have hd3 := k3.dt hd2
      have hs3 := k3.tup hs2
      refine ⟨.ref d, rfl, d, rfl, .inr ⟨_, .inl hd3⟩, .ref p, rfl, .ref t, rfl, _, kW x, p, hd3, rfl, hpl, (by rw [List.length_map]; exact lt80 (by omega)), fun v hv => ?_, fun hv => ?_⟩
      · -- it was there
        rcases valV_entW (w := x) (qs := qs) with ⟨q0, hq0, ek, ev⟩ | ⟨_, ev⟩
        · rw [ev] at hv
          cases hv
          have hm : q0.2 ∈ ws.take i := (kq.mem q0.2).mp (List.mem_map.mpr ⟨q0, hq0, rfl⟩)
          have hm2 : q0.2 ∈ ws := List.mem_of_mem_take hm
          obtain ⟨c1, c2⟩ := kW_inj ek
          have hq3 := k3.tup (hp2 q0 hq0)
          have hok0 := hok _ hm2
          refine ⟨.ref t, rfl, wdD q0.2, wdD x, wdD_dp (st_of hq3), wdD_dp (st_of hs3), wdD_sh hok0.2.2.2.2.2.2.2.2, wdD_sh (hok x hxm).2.2.2.2.2.2.2.2, _, rfl, ?_⟩
          rw [wdD_eqv]
          by_cases eq0 : q0.2 = x
          case neg =>
            rw [decide_eq_false eq0]
            exact iteT (qe (fun al => eq0 (al _ hm2 _ hxm c1 c2)) _ (k2.trans k3))
          rw [decide_eq_true eq0]
          rw [eq0] at hq3 hm
          refine iteF ?_
          refine ⟨qs, _, _, rfl, k2.trans k3, hd3, hp2.k k3, ?_, by omega⟩
          rw [e1]
          exact kq.same ((kq.mem x).mpr hm)
        · rw [ev] at hv
          cases hv
      · -- it is new
        rcases valV_entW (w := x) (qs := qs) with ⟨q0, hq0, ek, ev⟩ | ⟨en, _⟩
        · rw [ev] at hv
          cases hv
        · have ndt : d ≠ t := fun e => by
            rw [← e, hd3] at hs3
            cases hs3
          have hs4 : (upd (upd H2 p (.tup (cutV x.V none (some 2)))) d (.dT (putK (qs.map entW) (kW x) (.ref t)))) t = some (.tup x.V) := by
            rw [upd_ne ndt.symm]
            exact hs3
          refine ⟨.ref t, rfl, wdD x, wdD x, wdD_dp (st_of hs4), wdD_dp (st_of hs4), wdD_sh (hok x hxm).2.2.2.2.2.2.2.2, wdD_sh (hok x hxm).2.2.2.2.2.2.2.2, _, rfl, ?_⟩
          rw [wdD_eqv, decide_eq_true rfl]
          refine iteF ?_
          refine ⟨qs ++ [(t, x)], _, _, rfl, (k2.trans k3).mut nd0, ?_, fun q0 hq0 => ?_, ?_, by rw [List.length_append]; show qs.length + 1 ≤ i + 1; omega⟩
          · rw [upd_same, putK_new _ hv, List.map_append]
            rfl
          · rcases List.mem_append.mp hq0 with z | z
            · exact ((hp2.k k3).up hd3 (fun _ z => nomatch z)) q0 z
            · rw [List.mem_singleton.mp z]
              exact hs4
          · rw [e1]
            exact kq.more (q := (t, x)) en
    · rintro σ H2 ⟨qs, v2, v3, rfl, k2, hd2, hp2, kq, hlq⟩
      rw [List.length_map, len, List.take_length] at kq
      -- sorted(known.values())
      refine ⟨.ref d, rfl, .inr (.inr (.inl ⟨rfl, .inr ⟨_, hd2⟩⟩)), d, _, rfl, rfl, hd2, fun p np => ?_⟩
      have k3 : Kx H2 (upd H2 p (valsO p d)) := Kx.new np
      refine ⟨p, d, _, qs.map (·.1), wkOf H2, 4, rfl, upd_same, k3.dt hd2, ?_, by decide, fun t ht => ?_, fun ts' r hperm hsort nr => ?_⟩
      · rw [List.map_map, List.map_map]
        rfl
      · obtain ⟨q0, hq0, rfl⟩ := List.mem_map.mp ht
        have e := wkOf_eq (hp2 q0 hq0)
        rw [e]
        exact ⟨st_of (k3.tup (hp2 q0 hq0)), rfl⟩
      · obtain ⟨us, h1, h2⟩ := once_of kq hp2 hperm hsort
        have k4 : Kx (upd H2 p (valsO p d)) (upd (upd H2 p (valsO p d)) r (.lst (ts'.map V.ref))) := Kx.new nr
        refine q kq.alike _ r ts' us ((k2.trans k3).trans k4) ((k2.trans k3).f r nr) upd_same ((h1.k k3).k k4) h2
abbrev st_checked_words : Stmt := top 29
abbrev nm_checked_words : List Str := ["words"]
theorem sc_checked_words : FnScope nm_checked_words ["words"] (defScope st_checked_words) := C8.fnScope_by (by decide +kernel)
def sp_checked_words (K : PySem.W.Frag) (cB cU : Addr) : Sp := fun vs H Q E => ∃ (l : Addr) (ws : List Wd), vs = [.ref l] ∧ WsAt K H l ws ∧ ws.length ≤ 1000 ∧
  (ws.length ≤ 80 → (∀ x ∈ ws, x.ok) → Alike ws → ∀ (H' : Hp) (r : Addr) (ts : List Addr) (us : List Wd), Kx H H' → H r = none → H' r = some (.lst (ts.map V.ref)) → TAt H' ts us → Once ws us → Q (.ref r) H') ∧
  ((80 < ws.length ∨ ∃ x ∈ ws, ¬ x.ok) → ∀ H', Kx H H' → E (.ref cB) none H') ∧
  (ws.length ≤ 80 → (∀ x ∈ ws, x.ok) → ¬ Alike ws → ∀ H', Kx H H' → E (.ref cU) none H')
theorem ok_checked_words {cB cU : Addr} (D : DefT K mg "checked_words" st_checked_words c) (f_copied_words : CalX P w K mg base 5 "copied_words" (sp_copied_words K cB)) (f_each_once : CalX P w K mg base 1 "each_once" (sp_each_once K cU)) : CalX P w K mg base 6 "checked_words" (sp_checked_words K cB cU) := by
  refine calX_of D sc_checked_words (fun _ _ _ _ _ _ us hl => match us, hl with | [_], _ => rfl) (fun vs H Q E h => ?_) (fun f A outer s H vs Q E hr h => ?_)
  · obtain ⟨l, ws, rfl, _⟩ := h
    rfl
  · obtain ⟨l, ws, rfl, hw, h1000, q, qb, qu⟩ := h
    have nd := sc_checked_words.nd
    refine ⟨_, (pss_one (ps_ret (pe_cX f_each_once hr (by decide) (by rfl) (L2N.takes_of rfl rfl rfl rfl) (pa_cons (pe_cX f_copied_words hr (by decide) (by rfl) (L2N.takes_of rfl rfl rfl rfl) (pa_cons (pv 0) pa_nil)) pa_nil)))), ?_⟩
    refine ⟨_, rfl, l, ws, rfl, hw, h1000, fun h80 hok H1 r ts k1 nr hr1 ht1 => ?_, qb⟩
    refine ⟨r, ts, ws, rfl, sq_of hr1, ht1, by omega, hok, fun hal H2 r2 ts2 us k2 nr2 hr2 ht2 ho => ?_, fun hal H2 k2 => qu h80 hok hal H2 (k1.trans k2)⟩
    exact q h80 hok hal H2 r2 ts2 us (k1.trans k2) (k1.f _ nr2) hr2 ht2 ho
/-- .. where it does not raise -/
def sp_checked_words0 (K : PySem.W.Frag) : Sp := fun vs H Q _ => ∃ (l : Addr) (ws : List Wd), vs = [.ref l] ∧ WsAt K H l ws ∧ ws.length ≤ 80 ∧ (∀ x ∈ ws, x.ok) ∧ Alike ws ∧
  ∀ (H' : Hp) (r : Addr) (ts : List Addr) (us : List Wd), Kx H H' → H r = none → H' r = some (.lst (ts.map V.ref)) → TAt H' ts us → Once ws us → Q (.ref r) H'
theorem checked0 {cB cU : Addr} (f : CalX P w K mg base 6 "checked_words" (sp_checked_words K cB cU)) : C8.Cal P w K mg base 6 "checked_words" (sp_checked_words0 K) [] :=
  f.cal fun vs H Q E ⟨l, ws, e, hw, h80, hok, hal, q⟩ => ⟨l, ws, e, hw, by omega, fun _ _ _ => q, fun z => by
    rcases z with z | ⟨x, hx, z⟩
    · omega
    · exact absurd (hok x hx) z, fun _ _ z => absurd hal z⟩
end
end CH
end

section
set_option Elab.async false
set_option linter.all false
set_option maxRecDepth 100000
set_option maxHeartbeats 4000000
namespace CH
open PySem PySem.Spec PyProof.Rows L2
open GxR (TabB TabG Tabbed)
section
variable {P : Program} {w : World} {K : PySem.W.Frag} {mg : Str → Option Value} {base : Heap} {c aA cm : Addr}
abbrev st_is_people : Stmt := top 30
abbrev nm_is_people : List Str := ["value", "before", "person"]
theorem sc_is_people : FnScope nm_is_people ["value"] (defScope st_is_people) := C8.fnScope_by (by decide +kernel)
def sp_is_people (K : PySem.W.Frag) : Sp := fun vs H Q _ => ∃ (a : Addr) (ns : List Int), vs = [.ref a] ∧ SqT K H a (ns.map V.int) ∧ Rise (-1) ns ∧ Q (.bl true) H
theorem ok_is_people (D : DefT K mg "is_people" st_is_people c) (T : Tx K mg aA) (f_is_number : C8.Cal P w K mg base 2 "is_number" sp_is_number []) : C8.Cal P w K mg base 3 "is_people" (sp_is_people K) [] := by
  refine cal_of D sc_is_people (fun _ _ _ _ _ _ us hl => match us, hl with | [_], _ => rfl) (fun vs H Q E h => ?_) (fun f A outer s H vs Q E hr h => ?_)
  · obtain ⟨a, ns, rfl, _⟩ := h
    rfl
  · obtain ⟨a, ns, rfl, ha, hri, q⟩ := h
    have nd := sc_is_people.nd
    refine ⟨_, (pss_cons (ps_if (pt_not (pt_val (pe_callB call_isi (by rfl) T.z_isinstance (by decide +kernel) (pa_cons (pv 0) (pa_cons (pe_bltn (v := .ty "tuple") (by rfl) T.z_tuple (by decide +kernel) rfl) pa_nil))))) (pss_one (ps_ret pe_bl)) pss_nil)
      (pss_cons (ps_set (i := 1) nd rfl (Or.inl rfl) (pe_un un_neg pe_int))
      (pss_cons (ps_for PassesOwn.never rfl (pi_tup (pv 0)) (pg_name (i := 2) nd rfl (Or.inl rfl)) (pss_cons (ps_if (pt_not (pt_val (C8.pe_c f_is_number hr (by first | decide | exact hkp) (by rfl) (pa_cons (pv 2) (pa_cons (pe_op op_add (pv 1) pe_int) (pa_cons (pe_op op_sub (C8.pe_gc (by rfl) T.c_PEOPLE) pe_int) pa_nil)))))) (pss_one (ps_ret pe_bl)) pss_nil)
      (pss_one (ps_set (i := 1) nd rfl (Or.inl rfl) (pv 2)))))
      (pss_one (ps_ret pe_bl))))), ?_⟩
    refine ⟨_, rfl, .ref a, .ty "tuple", .type "tuple", .type "tuple", true, rfl, .ty _, tyx_tup ha, kit_ty (by decide +kernel), true, rfl, iteF ?_⟩
    refine ⟨1, rfl, ?_⟩
    refine ⟨_, rfl, a, rfl, ⟨_, ha⟩, for_tup (K := K) (a := a) (xs := ns.map V.int) (fun i σ H2 => ∃ (b : Int) (v2 : Option V), σ = [some (.ref a), some (.int b), v2] ∧ H2 = H ∧ ((-1 : Int) :: ns)[i]? = some b)
      ⟨-1, none, rfl, rfl, rfl⟩ (fun i σ H2 _ h => ?_) ?_ ?_⟩
    · obtain ⟨_, _, _, rfl, _⟩ := h
      exact ha
    · rintro i y σ H2 hi ⟨b, v2, rfl, rfl, hb⟩
      obtain ⟨x, hx, rfl⟩ : ∃ x, ns[i]? = some x ∧ V.int x = y := by
        rw [List.getElem?_map] at hi
        exact Option.map_eq_some_iff.mp hi
      obtain ⟨r1, r2⟩ := rise_at hri hx
      refine ⟨_, rfl, _, rfl, _, _, rfl, rfl, _, _, rfl, rfl, x, b + 1, 7, rfl, true, blT ⟨r1 b hb, r2⟩, iteF ?_⟩
      refine ⟨_, rfl, x, _, rfl, rfl, ?_⟩
      simpa using hx
    · rintro σ H2 ⟨b, v2, rfl, rfl, _⟩
      exact q
abbrev st_is_meeting : Stmt := top 31
abbrev nm_is_meeting : List Str := ["value", "people", "enough", "needed"]
theorem sc_is_meeting : FnScope nm_is_meeting ["value"] (defScope st_is_meeting) := C8.fnScope_by (by decide +kernel)
def sp_is_meeting (K : PySem.W.Frag) (cm : Addr) : Sp := fun vs H Q _ => ∃ (a : Addr) (m : Mt), vs = [.ref a] ∧ MAt K H a m ∧ m.ok ∧ TabG H cm ∧ ∀ H', Kx H H' → Q (.bl true) H'
theorem ok_is_meeting (D : DefT K mg "is_meeting" st_is_meeting c) (TB : TabB base mg c cm) (T : Tx K mg aA) (f_is_number : C8.Cal P w K mg base 2 "is_number" sp_is_number []) (f_is_people : C8.Cal P w K mg base 3 "is_people" (sp_is_people K) []) :
    C8.Cal P w K mg base 4 "is_meeting" (sp_is_meeting K cm) [] := by
  refine cal_of D sc_is_meeting (fun _ _ _ _ _ _ us hl => match us, hl with | [_], _ => rfl) (fun vs H Q E h => ?_) (fun f A outer s H vs Q E hr h => ?_)
  · obtain ⟨a, m, rfl, _⟩ := h
    rfl
  · obtain ⟨a, m, rfl, ⟨p, n, ha, hp, hn⟩, hok, tg, q⟩ := h
    have nd := sc_is_meeting.nd
    have hcode : (cxOf CX0 P w K mg base nm_is_meeting "is_meeting" (defScope st_is_meeting) f (.ref c) A outer s H E).nox.env.code = .ref c := rfl
    refine ⟨_, (pss_cons (ps_if (PW.pt (pw_or (pt_not (pt_val (pe_callB call_isi (by rfl) T.z_isinstance (by decide +kernel) (pa_cons (pv 0) (pa_cons (pe_bltn (v := .ty "tuple") (by rfl) T.z_tuple (by decide +kernel) rfl) pa_nil))))) (pw_or1 (pt_cmpR op_ne (pe_callB call_len_seq (by rfl) T.z_len PySem.boot_len (pa_cons (pv 0) pa_nil)) pe_int (nomark _))))) (pss_one (ps_ret pe_bl)) pss_nil)
      (pss_cons (ps_asg (pv 0) (pg_tup (by rfl) (pgs_cons (pg_name (i := 1) nd rfl (Or.inr rfl)) (pgs_cons (pg_name (i := 2) nd rfl (Or.inl rfl)) (pgs_cons (pg_name (i := 3) nd rfl (Or.inl rfl)) pgs_nil)))))
      (pss_cons (ps_if (PW.pt (pw_or (pt_not (pt_val (C8.pe_c f_is_people hr (by first | decide | exact hkp) (by rfl) (pa_cons (pv 1) pa_nil)))) (pw_or1 (pt_not (pt_val (C8.pe_c f_is_number hr (by first | decide | exact hkp) (by rfl) (pa_cons (pv 2) (pa_cons pe_int (pa_cons (pe_callB call_len_seq (by rfl) T.z_len PySem.boot_len (pa_cons (pv 1) pa_nil)) pa_nil))))))))) (pss_one (ps_ret pe_bl)) pss_nil)
      (pss_one (ps_ret (pe_and (C8.pe_c f_is_people hr (by first | decide | exact hkp) (by rfl) (pa_cons (pv 3) pa_nil)) (pe_one (pe_allG hr (by rfl) T.z_all (by decide +kernel) TB hcode (gnS_by (sc := defScope st_is_meeting) (by decide +kernel)) (pv 3) (elt_in (y := "people") (j := 1) (gnS_by (sc := defScope st_is_meeting) (by decide +kernel)) rfl (by decide +kernel) (show (defScope st_is_meeting).names.lookup ("people" : Str) = some .cell by decide +kernel)) (fun _ => rfl))))))))), ?_⟩
    refine ⟨_, rfl, .ref a, .ty "tuple", .type "tuple", .type "tuple", true, rfl, .ty _, tyx_tup ha, kit_ty (by decide +kernel), true, rfl, iteF ?_⟩
    refine ⟨_, rfl, a, _, rfl, .inr ha, rfl, _, rfl, iteF ?_⟩
    refine ⟨_, rfl, a, _, rfl, ha, rfl, _, _, rfl, _, _, rfl, _, _, rfl, rfl, ?_⟩
    refine ⟨_, rfl, p, m.ps, rfl, hp, hok.p, true, rfl, iteF ?_⟩
    refine ⟨_, rfl, _, rfl, p, _, rfl, .inr hp, m.e, 1, _, rfl, true, blT ⟨hok.e1, ?_⟩, iteF ?_⟩
    · rw [List.length_map]
      exact hok.e2
    refine ⟨_, rfl, n, m.nds, rfl, hn, hok.n, true, rfl, iteT ?_⟩
    refine ⟨_, rfl, tg, n, _, _, rfl, .inr hn, ⟨p, _, rfl, .inr hp, flat_int _, flat_int _, rfl⟩, by rw [List.length_map], fun H2 tb => ?_⟩
    have e : (List.map (fun x => inV x (List.map V.int m.ps)) (List.map V.int m.nds)).all id = true := by
      rw [List.all_eq_true]
      intro b hb
      obtain ⟨v, hv, rfl⟩ := List.mem_map.mp hb
      obtain ⟨x, hx, rfl⟩ := List.mem_map.mp hv
      rw [inV_int]
      exact decide_eq_true (hok.sub x hx)
    show Q (.bl ((List.map (fun x => inV x (List.map V.int m.ps)) (List.map V.int m.nds)).all id)) H2
    rw [e]
    exact q H2 (Kx.tab tg tb)
abbrev st_check_meeting : Stmt := top 32
abbrev nm_check_meeting : List Str := ["meeting"]
theorem sc_check_meeting : FnScope nm_check_meeting ["meeting"] (defScope st_check_meeting) := C8.fnScope_by (by decide +kernel)
def sp_check_meeting (K : PySem.W.Frag) (cm : Addr) : Sp := fun vs H Q _ => ∃ (a : Addr) (m : Mt), vs = [.ref a] ∧ MAt K H a m ∧ m.ok ∧ TabG H cm ∧ ∀ H', Kx H H' → Q .non H'
theorem ok_check_meeting (D : DefT K mg "check_meeting" st_check_meeting c) (f_is_meeting : C8.Cal P w K mg base 4 "is_meeting" (sp_is_meeting K cm) []) : C8.Cal P w K mg base 5 "check_meeting" (sp_check_meeting K cm) [] := by
  refine cal_of D sc_check_meeting (fun _ _ _ _ _ _ us hl => match us, hl with | [_], _ => rfl) (fun vs H Q E h => ?_) (fun f A outer s H vs Q E hr h => ?_)
  · obtain ⟨a, m, rfl, _⟩ := h
    rfl
  · obtain ⟨a, m, rfl, hm, hok, tg, q⟩ := h
    refine ⟨_, (pss_one (ps_if (pt_not (pt_val (C8.pe_c f_is_meeting hr (by first | decide | exact hkp) (by rfl) (pa_cons (pv 0) pa_nil)))) (pss_one ps_never) pss_nil)), ?_⟩
    exact ⟨_, rfl, a, m, rfl, hm, hok, tg, fun H1 k1 => ⟨true, rfl, iteF (q H1 k1)⟩⟩
end
end CH
end

section
set_option Elab.async false
set_option linter.all false
set_option maxRecDepth 100000
set_option maxHeartbeats 4000000
namespace CH
open PySem PySem.Spec PyProof.Rows L2
open GxR (TabB TabG Tabbed)
theorem alike_mem {ws us : List Wd} (h : ∀ x, x ∈ us ↔ x ∈ ws) : Alike us ↔ Alike ws :=
  ⟨fun a x hx y hy => a x ((h x).mpr hx) y ((h y).mpr hy), fun a x hx y hy => a x ((h x).mp hx) y ((h y).mp hy)⟩
theorem tat_app {H : Hp} {ts rs : List Addr} {ws us : List Wd} (h1 : TAt H ts ws) (h2 : TAt H rs us) : TAt H (ts ++ rs) (ws ++ us) := by
  unfold TAt at h1 h2 ⊢
  induction h1 with
  | nil => exact h2
  | cons a _ ih => exact .cons a ih
/-- what may be handed in as words -/
def Good (ws : List Wd) : Prop := ws.length ≤ 80 ∧ ∀ x ∈ ws, x.ok
theorem not_good {ws : List Wd} (h : ¬ Good ws) : 80 < ws.length ∨ ∃ x ∈ ws, ¬ x.ok := by
  by_cases z : 80 < ws.length
  · exact .inl z
  · refine .inr (Classical.byContradiction fun y => h ⟨by omega, fun x hx => Classical.byContradiction fun v => y ⟨x, hx, v⟩⟩)
section
variable {P : Program} {w : World} {K : PySem.W.Frag} {mg : Str → Option Value} {base : Heap} {c aA : Addr}
abbrev st_joined : Stmt := top 42
abbrev nm_joined : List Str := ["one", "other", "words"]
theorem sc_joined : FnScope nm_joined ["one", "other"] (defScope st_joined) := C8.fnScope_by (by decide +kernel)
def sp_joined (K : PySem.W.Frag) (cB cU cT : Addr) : Sp := fun vs H Q E => ∃ (l1 l2 : Addr) (ws us : List Wd), vs = [.ref l1, .ref l2] ∧ WsAt K H l1 ws ∧ WsAt K H l2 us ∧ ws.length ≤ 1000 ∧ us.length ≤ 1000 ∧
  (Good ws → Good us → Alike (ws ++ us) → ∀ vs, Once (ws ++ us) vs → vs.length ≤ 80 → ∀ (H' : Hp) (r : Addr) (ts : List Addr), Kx H H' → H r = none → H' r = some (.lst (ts.map V.ref)) → TAt H' ts vs → Q (.ref r) H') ∧
  (¬ Good ws ∨ (Good ws ∧ Alike ws ∧ ¬ Good us) → ∀ H', Kx H H' → E (.ref cB) none H') ∧
  (Good ws ∧ (¬ Alike ws ∨ (Good us ∧ ¬ Alike (ws ++ us))) → ∀ H', Kx H H' → E (.ref cU) none H') ∧
  (Good ws → Good us → Alike (ws ++ us) → ∀ vs, Once (ws ++ us) vs → 80 < vs.length → ∀ H', Kx H H' → E (.ref cT) none H')
theorem ok_joined {cB cU cT : Addr} (D : DefT K mg "joined" st_joined c) (T : Tx K mg aA) (e_TooMany : Exn K mg "TooMany" cT) (f_checked_words : CalX P w K mg base 6 "checked_words" (sp_checked_words K cB cU)) (f_each_once : CalX P w K mg base 1 "each_once" (sp_each_once K cU)) :
    CalX P w K mg base 7 "joined" (sp_joined K cB cU cT) := by
  refine calX_of D sc_joined (fun _ _ _ _ _ _ us hl => match us, hl with | [_, _], _ => rfl) (fun vs H Q E h => ?_) (fun f A outer s H vs Q E hr h => ?_)
  · obtain ⟨l1, l2, ws, us, rfl, _⟩ := h
    rfl
  · obtain ⟨l1, l2, ws, us, rfl, hw, hu', hl1, hl2, q, qb, qu, qt⟩ := h
    have nd := sc_joined.nd
    have hu := hu_of hr
    refine ⟨_, (pss_cons (ps_set (i := 2) nd rfl (Or.inl rfl) (pe_cX f_each_once hr (by decide) (by rfl) (L2N.takes_of rfl rfl rfl rfl) (pa_cons (pe_op op_cat (pe_cX f_checked_words hr (by decide) (by rfl) (L2N.takes_of rfl rfl rfl rfl) (pa_cons (pv 0) pa_nil)) (pe_cX f_checked_words hr (by decide) (by rfl) (L2N.takes_of rfl rfl rfl rfl) (pa_cons (pv 1) pa_nil))) pa_nil)))
      (pss_cons (ps_if (pt_cmpR op_gt (pe_callB call_len_seq (by rfl) T.z_len PySem.boot_len (pa_cons (pv 2) pa_nil)) (C8.pe_gc (by rfl) T.c_MOST_WORDS) (nomark _)) (pss_one (L2N.ps_raise rfl (L2N.takes_of rfl rfl rfl rfl) (L2N.pmk_own PySem.F.excBase_ValueError e_TooMany.q e_TooMany.g e_TooMany.k (raises_own e_TooMany.b e_TooMany.t) (by rfl)))) pss_nil)
      (pss_one (ps_ret (pv 2))))), ?_⟩
    refine ⟨_, rfl, l1, ws, rfl, hw, hl1, fun h80 hok hal H1 r1 ts1 us1 k1 nr1 hr1 ht1 ho1 => ?_, fun z H1 k1 => qb (.inl fun g => ?_) H1 k1, fun h80 hok hal H1 k1 => qu ⟨⟨h80, hok⟩, .inl hal⟩ H1 k1⟩
    · refine ⟨_, rfl, l2, us, rfl, hu'.k k1, hl2, fun h80b hokb halb H2 r2 ts2 us2 k2 nr2 hr2 ht2 ho2 => ?_, fun z H2 k2 => qb (.inr ⟨⟨h80, hok⟩, hal, fun g => ?_⟩) H2 (k1.trans k2), fun h80b hokb halb H2 k2 => qu ⟨⟨h80, hok⟩, .inr ⟨⟨h80b, hokb⟩, fun z => halb fun x hx y hy => z x (List.mem_append_right _ hx) y (List.mem_append_right _ hy)⟩⟩ H2 (k1.trans k2)⟩
      · have g1 : Good ws := ⟨h80, hok⟩
        have g2 : Good us := ⟨h80b, hokb⟩
        have n1 := once_len ho1
        have n2 := once_len ho2
        have c1 := paired_len ht1
        have c2 := paired_len ht2
        refine ⟨r1, r2, _, _, rfl, rfl, k2.lst hr1, hr2, small80 (by rw [List.length_map, List.length_map]; omega), fun p np => ?_⟩
        have k3 : Kx H2 (upd H2 p (.lst (ts1.map V.ref ++ ts2.map V.ref))) := Kx.new np
        have hp : (upd H2 p (.lst (ts1.map V.ref ++ ts2.map V.ref))) p = some (.lst ((ts1 ++ ts2).map V.ref)) := by rw [upd_same, List.map_append]
        generalize upd H2 p (.lst (ts1.map V.ref ++ ts2.map V.ref)) = H3 at k3 hp ⊢
        have htt : TAt H3 (ts1 ++ ts2) (us1 ++ us2) := tat_app ((ht1.k k2).k k3) (ht2.k k3)
        have mem : ∀ x, x ∈ us1 ++ us2 ↔ x ∈ ws ++ us := fun x => by rw [List.mem_append, List.mem_append, ho1.mem x, ho2.mem x]
        have k03 := (k1.trans k2).trans k3
        refine ⟨p, ts1 ++ ts2, us1 ++ us2, rfl, sq_of hp, htt, by rw [List.length_append]; omega, fun x hx => ?_, fun hal2 H4 r4 ts4 vs4 k4 nr4 hr4 ht4 ho4 => ?_, fun hal2 H4 k4 => qu ⟨g1, .inr ⟨g2, fun z => hal2 ((alike_mem mem).mpr z)⟩⟩ H4 (k03.trans k4)⟩
        · rcases List.mem_append.mp ((mem x).mp hx) with z | z
          · exact hok x z
          · exact hokb x z
        · have hal3 := (alike_mem mem).mp hal2
          have ho5 : Once (ws ++ us) vs4 := ⟨fun x => (ho4.mem x).trans (mem x), ho4.ord⟩
          have c4 := paired_len ht4
          refine ⟨_, rfl, r4, _, rfl, .inl (sq_of hr4), _, 80, rfl, rfl, _, rfl, ?_⟩
          rw [List.length_map]
          by_cases big : 80 < vs4.length
          · rw [show decide ((ts4.length : Int) > 80) = true from decide_eq_true (by omega)]
            exact iteT (qt g1 g2 hal3 vs4 ho5 big H4 (k03.trans k4))
          · rw [show decide ((ts4.length : Int) > 80) = false from decide_eq_false (by omega)]
            refine iteF ⟨_, rfl, ?_⟩
            exact q g1 g2 hal3 vs4 ho5 (by omega) H4 r4 ts4 (k03.trans k4) (k03.f _ nr4) hr4 ht4
      · rcases z with z | ⟨x, hx, z⟩
        · exact absurd g.1 (by omega)
        · exact z (g.2 x hx)
    · rcases z with z | ⟨x, hx, z⟩
      · exact absurd g.1 (by omega)
      · exact z (g.2 x hx)
end
end CH
end

section
set_option Elab.async false
set_option linter.all false
set_option maxRecDepth 100000
set_option maxHeartbeats 4000000
namespace CH
open PySem PySem.Spec PyProof.Rows L2
/-- where it is not so: this class -/
def sp_no (f : Th → Bool) (C : Addr) : Sp := fun vs H _ E => ∃ (d : Th) (v : V), vs = [v] ∧ At H d v ∧ f d = false ∧ ∀ H', Kx H H' → E (.ref C) none H'
theorem len_no {f : Th → Bool} {C : Addr} {vs : List V} {H : Hp} {Q : VK} {E : XK} (h : sp_no f C vs H Q E) : vs.length = 1 := by
  obtain ⟨d, v, rfl, _⟩ := h
  rfl
def sp_wbad (cB cU : Addr) : Sp := fun vs H _ E => ∃ (d : Th) (v : V) (C : Addr), vs = [v] ∧ At H d v ∧ WBad cB cU d C ∧ ∀ H', Kx H H' → E (.ref C) none H'
section
variable {P : Program} {w : World} {K : PySem.W.Frag} {mg : Str → Option Value} {base : Heap} {c aA cB cU cT : Addr}
theorem okT_is_word (D : DefT K mg "is_word" st_is_word c) (T : Tx K mg aA) (f_is_number : C8.Cal P w K mg base 2 "is_number" sp_numT []) (f_is_hand : C8.Cal P w K mg base 3 "is_hand" (sp_th handB) []) (f_is_person : C8.Cal P w K mg base 3 "is_person" (sp_th personB) [])
    (f_is_hour : C8.Cal P w K mg base 3 "is_hour" (sp_th hourB) []) (f_is_answer : C8.Cal P w K mg base 1 "is_answer" (sp_th ansB) []) : C8.Cal P w K mg base 4 "is_word" (sp_th wordB) [] := by
  refine cal_of D sc_is_word (fun _ _ _ _ _ _ us hl => match us, hl with | [_], _ => rfl) (fun vs H Q E h => len_th h) (fun f A outer s H vs Q E hr h => ?_)
  obtain ⟨d, v, rfl, hv, q⟩ := h
  have nd := sc_is_word.nd
  refine ⟨_, (pss_cons (ps_if (PW.pt (pw_or (pt_not (pt_val (pe_callB call_isi (by rfl) T.z_isinstance (by decide +kernel) (pa_cons (pv 0) (pa_cons (pe_bltn (v := .ty "tuple") (by rfl) T.z_tuple (by decide +kernel) rfl) pa_nil))))) (pw_or1 (pt_cmpR op_ne (pe_callB call_len_seq (by rfl) T.z_len PySem.boot_len (pa_cons (pv 0) pa_nil)) pe_int (nomark _))))) (pss_one (ps_ret pe_bl)) pss_nil)
      (pss_cons (ps_asg (pv 0) (pg_tup (by rfl) (pgs_cons (pg_name (i := 1) nd rfl (Or.inl rfl)) (pgs_cons (pg_name (i := 2) nd rfl (Or.inl rfl)) (pgs_cons (pg_name (i := 3) nd rfl (Or.inl rfl)) (pgs_cons (pg_name (i := 4) nd rfl (Or.inl rfl)) (pgs_cons (pg_name (i := 5) nd rfl (Or.inl rfl)) pgs_nil)))))))
      (pss_one (ps_ret (pe_and (C8.pe_c f_is_number hr (by first | decide | exact hkp) (by rfl) (pa_cons (pv 1) (pa_cons pe_int (pa_cons (C8.pe_gc (by rfl) T.c_COUNTS) pa_nil)))) (pe_and (C8.pe_c f_is_hand hr (by first | decide | exact hkp) (by rfl) (pa_cons (pv 2) pa_nil)) (pe_and (C8.pe_c f_is_person hr (by first | decide | exact hkp) (by rfl) (pa_cons (pv 3) pa_nil)) (pe_and (C8.pe_c f_is_hour hr (by first | decide | exact hkp) (by rfl) (pa_cons (pv 4) pa_nil)) (pe_one (C8.pe_c f_is_answer hr (by first | decide | exact hkp) (by rfl) (pa_cons (pv 5) pa_nil))))))))))), ?_⟩
  refine ⟨_, rfl, v, .ty "tuple", _, .type "tuple", d.isT, rfl, .ty _, hv.ty, kitT K d, _, rfl, ?_⟩
  cases hT : d.isT with
  | false =>
    rw [wordB_not hT] at q
    exact iteT q
  | true =>
    obtain ⟨ds, rfl⟩ := isT_tup hT
    obtain ⟨a, ys, rfl, ha, hy⟩ := hv
    refine iteF ⟨_, rfl, a, _, rfl, .inr (st_of ha), rfl, _, rfl, ?_⟩
    by_cases l : ds.length = 5
    case neg =>
      rw [neI (show ((ys.length : Nat) : Int) ≠ 5 by rw [hy.len]; omega)]
      rw [wordB_len l] at q
      exact iteT q
    rw [eqI (show ((ys.length : Nat) : Int) = 5 by rw [hy.len]; omega)]
    refine iteF ?_
    match ds, l with
    | [d1, d2, d3, d4, d5], _ =>
      obtain ⟨v1, _, rfl, a1, v2, _, rfl, a2, v3, _, rfl, a3, v4, _, rfl, a4, v5, _, rfl, a5, rfl⟩ := hy
      have q : Q (.bl (numB d1 1 99 && (handB d2 && (personB d3 && (hourB d4 && ansB d5))))) H := q
      refine ⟨_, rfl, a, _, rfl, st_of ha, rfl, _, _, rfl, _, _, rfl, _, _, rfl, _, _, rfl, _, _, rfl, rfl, ?_⟩
      refine ⟨_, rfl, d1, v1, 1, 99, rfl, a1, _, rfl, iteB (fun e => ?_) (fun e => by rw [e, Bool.false_and] at q; exact q)⟩
      rw [e, Bool.true_and] at q
      refine ⟨_, rfl, d2, v2, rfl, a2, _, rfl, iteB (fun e => ?_) (fun e => by rw [e, Bool.false_and] at q; exact q)⟩
      rw [e, Bool.true_and] at q
      refine ⟨_, rfl, d3, v3, rfl, a3, _, rfl, iteB (fun e => ?_) (fun e => by rw [e, Bool.false_and] at q; exact q)⟩
      rw [e, Bool.true_and] at q
      refine ⟨_, rfl, d4, v4, rfl, a4, _, rfl, iteB (fun e => ?_) (fun e => by rw [e, Bool.false_and] at q; exact q)⟩
      rw [e, Bool.true_and] at q
      exact ⟨_, rfl, d5, v5, rfl, a5, q⟩
theorem okT_copied_words (D : DefT K mg "copied_words" st_copied_words c) (T : Tx K mg aA) (e_BadWords : Exn K mg "BadWords" cB) (f_is_word : C8.Cal P w K mg base 4 "is_word" (sp_th wordB) []) : CalX P w K mg base 5 "copied_words" (sp_no wordsB cB) := by
  refine calX_of D sc_copied_words (fun _ _ _ _ _ _ us hl => match us, hl with | [_], _ => rfl) (fun vs H Q E h => len_no h) (fun f A outer s H vs Q E hr h => ?_)
  obtain ⟨d, v, rfl, hv, hb, q⟩ := h
  have nd := sc_copied_words.nd
  refine ⟨_, (pss_cons (ps_if (PW.pt (pw_or (pt_not (pt_val (pe_callB call_isi (by rfl) T.z_isinstance (by decide +kernel) (pa_cons (pv 0) (pa_cons (pe_bltn (v := .ty "list") (by rfl) T.z_list (by decide +kernel) rfl) pa_nil))))) (pw_or1 (pt_cmpR op_gt (pe_callB call_len_seq (by rfl) T.z_len PySem.boot_len (pa_cons (pv 0) pa_nil)) (C8.pe_gc (by rfl) T.c_MOST_WORDS) (nomark _))))) (pss_one (L2N.ps_raise rfl (L2N.takes_of rfl rfl rfl rfl) (L2N.pmk_own PySem.F.excBase_ValueError e_BadWords.q e_BadWords.g e_BadWords.k (raises_own e_BadWords.b e_BadWords.t) (by rfl)))) pss_nil)
      (pss_cons (ps_set (i := 1) nd rfl (Or.inl rfl) (pe_lst pa_nil))
      (pss_cons (ps_for (passes_of rfl) rfl (pi_list (pv 0)) (pg_name (i := 2) nd rfl (Or.inl rfl)) (pss_cons (ps_if (pt_not (pt_val (C8.pe_c f_is_word hr (by first | decide | exact hkp) (by rfl) (pa_cons (pv 2) pa_nil)))) (pss_one (L2N.ps_raise rfl (L2N.takes_of rfl rfl rfl rfl) (L2N.pmk_own PySem.F.excBase_ValueError e_BadWords.q e_BadWords.g e_BadWords.k (raises_own e_BadWords.b e_BadWords.t) (by rfl)))) pss_nil)
      (pss_cons (ps_asg (pv 2) (pg_tup (by rfl) (pgs_cons (pg_name (i := 3) nd rfl (Or.inl rfl)) (pgs_cons (pg_name (i := 4) nd rfl (Or.inl rfl)) (pgs_cons (pg_name (i := 5) nd rfl (Or.inl rfl)) (pgs_cons (pg_name (i := 6) nd rfl (Or.inl rfl)) (pgs_cons (pg_name (i := 7) nd rfl (Or.inl rfl)) pgs_nil)))))))
      (pss_one (ps_expr (pe_bm PySem.F.plainAttrs_list PySem.F.slot_list_append PySem.F.type_list_append mt_append (pv 1) (pa_cons (pe_tup (pa_cons (pv 3) (pa_cons (pv 4) (pa_cons (pv 5) (pa_cons (pv 6) (pa_cons (pv 7) pa_nil)))))) pa_nil)))))))
      (pss_one (ps_ret (pv 1)))))), ?_⟩
  refine ⟨_, rfl, v, .ty "list", _, .type "list", d.isL, rfl, .ty _, hv.ty, kitL K d, _, rfl, ?_⟩
  cases hL : d.isL with
  | false => exact iteT (iteT (q _ (Kx.refl H)))
  | true =>
    obtain ⟨ds, rfl⟩ := isL_lst hL
    obtain ⟨l, ys, rfl, hl, hy⟩ := hv
    have ly := hy.len
    refine iteF ⟨_, rfl, l, _, rfl, .inl (sq_of hl), _, 80, rfl, rfl, _, rfl, ?_⟩
    by_cases h80 : 80 < ys.length
    · rw [show decide ((ys.length : Int) > 80) = true from decide_eq_true (by omega)]
      exact iteT (q _ (Kx.refl H))
    rw [show decide ((ys.length : Int) > 80) = false from decide_eq_false (by omega)]
    refine iteF ?_
    refine ⟨Nat.zero_le _, fun r nr => ?_⟩
    have k0 : Kx H (upd H r (.lst [])) := Kx.new nr
    refine ⟨_, rfl, l, rfl, ⟨_, k0.l (sq_of hl)⟩, for_list (K := K) (a := l) (xs := ys) (fun i σ H2 => ∃ (rs : List V) (v2 v3 v4 v5 v6 v7 : Option V), σ = [some (.ref l), some (.ref r), v2, v3, v4, v5, v6, v7] ∧ Kx H H2 ∧
        H2 r = some (.lst rs) ∧ rs.length = i ∧ ∀ x ∈ ds.take i, wordB x = true)
      ⟨[], none, none, none, none, none, none, rfl, k0, upd_same, rfl, fun x hx => absurd hx (by simp)⟩ (fun i σ H2 _ ⟨_, _, _, _, _, _, _, _, k2, _⟩ => k2.l (sq_of hl)) ?_ ?_⟩
    · rintro i y σ H2 hi ⟨rs, v2, v3, v4, v5, v6, v7, rfl, k2, hr2, lr, ok2⟩
      obtain ⟨e, he, hey⟩ := hy.at hi
      have hey2 := hey.k k2
      refine ⟨_, rfl, e, y, rfl, hey2, _, rfl, ?_⟩
      cases hw : wordB e with
      | false => exact iteT (q _ k2)
      | true =>
        refine iteF ?_
        obtain ⟨x, rfl, _⟩ := wordB_wd hw
        obtain ⟨t, rfl, ht⟩ := ats_wd hey2
        refine ⟨_, rfl, t, _, rfl, st_of ht, rfl, _, _, rfl, _, _, rfl, _, _, rfl, _, _, rfl, _, _, rfl, rfl, ?_⟩
        refine ⟨_, rfl, .inl ⟨rfl, _, sq_of hr2⟩, _, rfl, _, rfl, _, rfl, _, rfl, _, rfl, (by show 5 ≤ sizeLine; decide), fun p np => ?_⟩
        have k3 : Kx H2 (upd H2 p (.tup x.V)) := Kx.new np
        have li := (List.getElem?_eq_some_iff.mp hi).1
        refine ⟨r, rs, _, rfl, rfl, k3.lst hr2, lt80 (by omega), ?_⟩
        refine ⟨rs ++ [.ref p], _, _, _, _, _, _, rfl, (k2.trans k3).mut nr, upd_same, by rw [List.length_append, lr] <;> rfl, fun z hz => ?_⟩
        rw [List.take_add_one, he] at hz
        rcases List.mem_append.mp hz with hz | hz
        · exact ok2 z hz
        · rw [List.mem_singleton.mp hz]
          exact hw
    · rintro σ H2 ⟨rs, v2, v3, v4, v5, v6, v7, rfl, k2, hr2, lr, ok2⟩
      rw [show ds.take ys.length = ds by rw [ly, List.take_length]] at ok2
      have hb : (decide (ds.length ≤ 80) && ds.all wordB) = false := hb
      rw [decide_eq_true (show ds.length ≤ 80 by omega), Bool.true_and, List.all_eq_true.mpr ok2] at hb
      cases hb
theorem okT_checked_words (D : DefT K mg "checked_words" st_checked_words c) (f_copied_words : CalX P w K mg base 5 "copied_words" (sp_copied_words K cB)) (f_copied_wordsT : CalX P w K mg base 5 "copied_words" (sp_no wordsB cB)) (f_each_once : CalX P w K mg base 1 "each_once" (sp_each_once K cU)) : CalX P w K mg base 6 "checked_words" (sp_wbad cB cU) := by
  refine calX_of D sc_checked_words (fun _ _ _ _ _ _ us hl => match us, hl with | [_], _ => rfl) (fun vs H Q E h => ?_) (fun f A outer s H vs Q E hr h => ?_)
  · obtain ⟨d, v, C, rfl, _⟩ := h
    rfl
  obtain ⟨d, v, C, rfl, hv, hb, q⟩ := h
  have nd := sc_checked_words.nd
  cases hb with
  | bad hb =>
    refine ⟨_, (pss_one (ps_ret (pe_cX f_each_once hr (by decide) (by rfl) (L2N.takes_of rfl rfl rfl rfl) (pa_cons (pe_cX f_copied_wordsT hr (by decide) (by rfl) (L2N.takes_of rfl rfl rfl rfl) (pa_cons (pv 0) pa_nil)) pa_nil)))), ?_⟩
    exact ⟨_, rfl, d, v, rfl, hv, hb, q⟩
  | unlike l80 hok nal =>
    refine ⟨_, (pss_one (ps_ret (pe_cX f_each_once hr (by decide) (by rfl) (L2N.takes_of rfl rfl rfl rfl) (pa_cons (pe_cX f_copied_words hr (by decide) (by rfl) (L2N.takes_of rfl rfl rfl rfl) (pa_cons (pv 0) pa_nil)) pa_nil)))), ?_⟩
    obtain ⟨l, rfl, hw⟩ := at_words (K := K) hv
    refine ⟨_, rfl, l, _, rfl, hw, by omega, fun h80 hok H1 r ts k1 nr hr1 ht1 => ?_, fun z => ?_⟩
    · exact ⟨r, ts, _, rfl, sq_of hr1, ht1, by omega, hok, fun al => absurd al nal, fun _ H2 k2 => q H2 (k1.trans k2)⟩
    · rcases z with z | ⟨x, hx, z⟩
      · omega
      · exact absurd (hok x hx) z
/-- two lists: the first right, the second refused; or the first refused -/
def sp_jbad (K : PySem.W.Frag) (cB cU : Addr) : Sp := fun vs H _ E => ∃ (d : Th) (v u : V) (C : Addr), ((vs = [v, u]) ∨ ∃ (l : Addr) (ws : List Wd), vs = [.ref l, v] ∧ WsAt K H l ws ∧ ws.length ≤ 80 ∧ (∀ x ∈ ws, x.ok) ∧ Alike ws) ∧ At H d v ∧ WBad cB cU d C ∧ ∀ H', Kx H H' → E (.ref C) none H'
theorem okT_joined (D : DefT K mg "joined" st_joined c) (T : Tx K mg aA) (e_TooMany : Exn K mg "TooMany" cT) (f_checked_words : C8.Cal P w K mg base 6 "checked_words" (sp_checked_words0 K) []) (f_checked_wordsT : CalX P w K mg base 6 "checked_words" (sp_wbad cB cU)) (f_each_once : CalX P w K mg base 1 "each_once" (sp_each_once K cU)) :
    CalX P w K mg base 7 "joined" (sp_jbad K cB cU) := by
  refine calX_of D sc_joined (fun _ _ _ _ _ _ us hl => match us, hl with | [_, _], _ => rfl) (fun vs H Q E h => ?_) (fun f A outer s H vs Q E hr h => ?_)
  · obtain ⟨d, v, u, C, rfl | ⟨l, ws, rfl, _⟩, _⟩ := h
    · rfl
    · rfl
  obtain ⟨d, v, u, C, h, hv, hb, q⟩ := h
  have nd := sc_joined.nd
  have hu := hu_of hr
  rcases h with rfl | ⟨l, ws, rfl, hw, h80, hok, hal⟩
  · refine ⟨_, (pss_cons (ps_set (i := 2) nd rfl (Or.inl rfl) (pe_cX f_each_once hr (by decide) (by rfl) (L2N.takes_of rfl rfl rfl rfl) (pa_cons (pe_op op_cat (pe_cX f_checked_wordsT hr (by decide) (by rfl) (L2N.takes_of rfl rfl rfl rfl) (pa_cons (pv 0) pa_nil)) (pe_cX f_checked_wordsT hr (by decide) (by rfl) (L2N.takes_of rfl rfl rfl rfl) (pa_cons (pv 1) pa_nil))) pa_nil)))
      (pss_cons (ps_if (pt_cmpR op_gt (pe_callB call_len_seq (by rfl) T.z_len PySem.boot_len (pa_cons (pv 2) pa_nil)) (C8.pe_gc (by rfl) T.c_MOST_WORDS) (nomark _)) (pss_one (L2N.ps_raise rfl (L2N.takes_of rfl rfl rfl rfl) (L2N.pmk_own PySem.F.excBase_ValueError e_TooMany.q e_TooMany.g e_TooMany.k (raises_own e_TooMany.b e_TooMany.t) (by rfl)))) pss_nil)
      (pss_one (ps_ret (pv 2))))), ?_⟩
    exact ⟨_, rfl, d, _, C, rfl, hv, hb, q⟩
  · refine ⟨_, (pss_cons (ps_set (i := 2) nd rfl (Or.inl rfl) (pe_cX f_each_once hr (by decide) (by rfl) (L2N.takes_of rfl rfl rfl rfl) (pa_cons (pe_op op_cat (C8.pe_c f_checked_words hr (by first | decide | exact hkp) (by rfl) (pa_cons (pv 0) pa_nil)) (pe_cX f_checked_wordsT hr (by decide) (by rfl) (L2N.takes_of rfl rfl rfl rfl) (pa_cons (pv 1) pa_nil))) pa_nil)))
      (pss_cons (ps_if (pt_cmpR op_gt (pe_callB call_len_seq (by rfl) T.z_len PySem.boot_len (pa_cons (pv 2) pa_nil)) (C8.pe_gc (by rfl) T.c_MOST_WORDS) (nomark _)) (pss_one (L2N.ps_raise rfl (L2N.takes_of rfl rfl rfl rfl) (L2N.pmk_own PySem.F.excBase_ValueError e_TooMany.q e_TooMany.g e_TooMany.k (raises_own e_TooMany.b e_TooMany.t) (by rfl)))) pss_nil)
      (pss_one (ps_ret (pv 2))))), ?_⟩
    refine ⟨_, rfl, l, ws, rfl, hw, h80, hok, hal, fun H1 r ts us k1 nr hr1 ht1 ho => ?_⟩
    exact ⟨_, rfl, d, _, C, rfl, hv.k k1, hb, fun H2 k2 => q H2 (k1.trans k2)⟩
end
end CH
end

section
set_option Elab.async false
set_option linter.all false
set_option maxRecDepth 100000
set_option maxHeartbeats 4000000
namespace CH
open PySem PySem.Spec PyProof.Rows L2
open LamX (CodeO)
/-- the nine classes of what is refused, in the law's order -/
structure Nine (K : PySem.W.Frag) (cH : Addr) (cs : List Addr) : Prop where
  m : ∀ (i : Nat) (C : Addr), cs[i]? = some C → PySem.W.exmOne K (.ref C) (.ref cH) = some true
  k : ∀ (i j : Nat) (C D : Addr), cs[i]? = some C → cs[j]? = some D → PySem.W.kitOne K (.ref C) (.ref D) = some (decide (j = i))
  v : ∀ (i : Nat) (C : Addr), cs[i]? = some C → PySem.W.kitOne K (.ref C) (.type "ValueError") = some true
  x : ∀ (i : Nat) (C : Addr), cs[i]? = some C → ExcC K C
section
variable {P : Program} {w : World} {K : PySem.W.Frag} {mg : Str → Option Value} {base : Heap} {c aA : Addr}
abbrev st_law_refused : Stmt := top 67
abbrev nm_law_refused : List Str := ["_law_ask", "_law_thing", "_law_due", "error", "_law_kinds", "_law_kind"]
theorem sc_law_refused : FnScope nm_law_refused ["_law_ask", "_law_thing", "_law_due"] (defScope st_law_refused) := C8.fnScope_by (by decide +kernel)
def sp_refused (P : Program) (w : World) (K : PySem.W.Frag) (mg : Str → Option Value) (base : Heap) (cs : List Addr) : Sp := fun vs H Q _ => ∃ (f : Addr) (v : V) (i : Nat) (C : Addr), vs = [.ref f, v, .int (i : Int)] ∧ cs[i]? = some C ∧ Refuses P w K mg base 10 H f v C ∧ ∀ H', Kx H H' → Q (.bl true) H'
theorem ok_law_refused {cH c0 c1 c2 c3 c4 c5 c6 c7 c8 : Addr} (D : DefT K mg "_law_refused" st_law_refused c) (T : Tx K mg aA) (e_HourError : Exn K mg "HourError" cH) (e_BadWords : Exn K mg "BadWords" c0) (e_BadMeeting : Exn K mg "BadMeeting" c1) (e_BadOlds : Exn K mg "BadOlds" c2) (e_BadHand : Exn K mg "BadHand" c3)
    (e_BadPerson : Exn K mg "BadPerson" c4) (e_BadHour : Exn K mg "BadHour" c5) (e_BadWord : Exn K mg "BadWord" c6) (e_Unlike : Exn K mg "Unlike" c7) (e_TooMany : Exn K mg "TooMany" c8) (N : Nine K cH [c0, c1, c2, c3, c4, c5, c6, c7, c8]) :
    C8.Cal P w K mg base 11 "_law_refused" (sp_refused P w K mg base [c0, c1, c2, c3, c4, c5, c6, c7, c8]) [] := by
  refine cal_of D sc_law_refused (fun _ _ _ _ _ _ us hl => match us, hl with | [_, _, _], _ => rfl) (fun vs H Q E h => ?_) (fun fa A outer s H vs Q E hr h => ?_)
  · obtain ⟨f, v, i, C, rfl, _⟩ := h
    rfl
  obtain ⟨f, v, i, C, rfl, hC, ⟨F, sp, act, hf, hc, hsp⟩, q⟩ := h
  have nd := sc_law_refused.nd
  refine ⟨_, (pss_cons (L2N.ps_try_as (i := 3) rfl rfl nd rfl rfl ⟨rfl, by decide, .inl e_HourError.g⟩ takesN0 (fun W pn xe tk _ => (pss_one (ps_expr (by exact (pe_callF (k := 10) rfl rfl rfl rfl rfl hr (by decide) tk (i := 0) rfl (Or.inl rfl) (pa_cons (pv 1) pa_nil))))))
      (fun a oe cls d pn hz hf => pss_exc (K := K) fun D0 ec ed C => (pss_cons (ps_set (i := 4) nd rfl (Or.inl rfl) (pe_lst (pa_cons (pe_callB (call_isE1 C hz.zc hf ec ed) (by rfl) T.z_isinstance (by decide +kernel) (pa_cons (pv 3) (pa_cons (C8.pe_gc (by rfl) e_BadWords.cv) pa_nil))) (pa_cons (pe_callB (call_isE1 C hz.zc hf ec ed) (by rfl) T.z_isinstance (by decide +kernel) (pa_cons (pv 3) (pa_cons (C8.pe_gc (by rfl) e_BadMeeting.cv) pa_nil))) (pa_cons (pe_callB (call_isE1 C hz.zc hf ec ed) (by rfl) T.z_isinstance (by decide +kernel) (pa_cons (pv 3) (pa_cons (C8.pe_gc (by rfl) e_BadOlds.cv) pa_nil))) pa_nil)))))
      (pss_cons (ps_set (i := 4) nd rfl (Or.inl rfl) (pe_op op_cat (pv 4) (pe_lst (pa_cons (pe_callB (call_isE1 C hz.zc hf ec ed) (by rfl) T.z_isinstance (by decide +kernel) (pa_cons (pv 3) (pa_cons (C8.pe_gc (by rfl) e_BadHand.cv) pa_nil))) (pa_cons (pe_callB (call_isE1 C hz.zc hf ec ed) (by rfl) T.z_isinstance (by decide +kernel) (pa_cons (pv 3) (pa_cons (C8.pe_gc (by rfl) e_BadPerson.cv) pa_nil))) (pa_cons (pe_callB (call_isE1 C hz.zc hf ec ed) (by rfl) T.z_isinstance (by decide +kernel) (pa_cons (pv 3) (pa_cons (C8.pe_gc (by rfl) e_BadHour.cv) pa_nil))) pa_nil))))))
      (pss_cons (ps_set (i := 4) nd rfl (Or.inl rfl) (pe_op op_cat (pv 4) (pe_lst (pa_cons (pe_callB (call_isE1 C hz.zc hf ec ed) (by rfl) T.z_isinstance (by decide +kernel) (pa_cons (pv 3) (pa_cons (C8.pe_gc (by rfl) e_BadWord.cv) pa_nil))) (pa_cons (pe_callB (call_isE1 C hz.zc hf ec ed) (by rfl) T.z_isinstance (by decide +kernel) (pa_cons (pv 3) (pa_cons (C8.pe_gc (by rfl) e_Unlike.cv) pa_nil))) (pa_cons (pe_callB (call_isE1 C hz.zc hf ec ed) (by rfl) T.z_isinstance (by decide +kernel) (pa_cons (pv 3) (pa_cons (C8.pe_gc (by rfl) e_TooMany.cv) pa_nil))) pa_nil))))))
      (pss_one (ps_ret (by exact (pe_and (pe_cmpR (show OpR _ _ (rEqD K) from op_eqD hr.units) (pv 4) (pe_lcH (own := [("_law_kind", 5)]) (g := gName 5) (tt := tYes) (hot_of hz hf) nd (L2H.pi_range1H (by rfl) T.z_range (pa_cons pe_int pa_nil)) (blkOk_by (own := [("_law_kind", 5)]) (N := nm_law_refused) (sc := defScope st_law_refused) (by decide +kernel)) (fun _ _ _ _ _ => pg_name (i := 5) nd rfl (Or.inl rfl)) (fun _ _ _ _ _ => pts_nil) (fun _ _ _ _ _ => (pe_cmpR op_eq (pv 5) (pv 2) (nomark _)))) (nomark _)) (pe_one (pe_callB (call_isE1 C hz.zc hf ec ed) (by rfl) T.z_isinstance (by decide +kernel) (pa_cons (pv 3) (pa_cons (pe_bltn (v := .ty "ValueError") (by rfl) T.z_ValueError (by decide +kernel) rfl) pa_nil)))))))))))))
      (pss_one (ps_ret pe_bl))), ?_⟩
  refine ⟨f, F, sp, rfl, act, hf, ⟨_, rfl, hf, hc, ?_⟩⟩
  refine hsp H _ _ (Kx.refl H) fun H1 k1 => ?_
  refine ⟨true, N.m i C hC, fun _ ea hea => ⟨C, rfl, rfl, N.x i C hC, ?_⟩, fun q => nomatch q⟩
  let dd : List Nat → List V := fun l => l.map fun j => V.bl (decide (j = i))
  refine ⟨_, rfl, .ref c0, .ref c0, _, rfl, (fun u h => h), N.k i 0 C c0 hC rfl, _, rfl, .ref c1, .ref c1, _, rfl, (fun u h => h), N.k i 1 C c1 hC rfl, _, rfl, .ref c2, .ref c2, _, rfl, (fun u h => h), N.k i 2 C c2 hC rfl, (by show 3 ≤ sizeLine; decide), fun a na => ?_⟩
  rw [show ([.bl (decide (0 = i)), .bl (decide (1 = i)), .bl (decide (2 = i))] : List V) = dd [0, 1, 2] from rfl]
  have k2 : Kx H1 (upd H1 a (.lst (dd [0, 1, 2]))) := Kx.new na
  have ha : (upd H1 a (.lst (dd [0, 1, 2]))) a = some (.lst (dd [0, 1, 2])) := upd_same
  generalize upd H1 a (.lst (dd [0, 1, 2])) = H2 at k2 ha ⊢
  refine ⟨_, rfl, _, rfl, .ref c3, .ref c3, _, rfl, (fun u h => h), N.k i 3 C c3 hC rfl, _, rfl, .ref c4, .ref c4, _, rfl, (fun u h => h), N.k i 4 C c4 hC rfl, _, rfl, .ref c5, .ref c5, _, rfl, (fun u h => h), N.k i 5 C c5 hC rfl, (by show 3 ≤ sizeLine; decide), fun b nb => ?_⟩
  rw [show ([.bl (decide (3 = i)), .bl (decide (4 = i)), .bl (decide (5 = i))] : List V) = dd [3, 4, 5] from rfl]
  have k3 : Kx H2 (upd H2 b (.lst (dd [3, 4, 5]))) := Kx.new nb
  have hb : (upd H2 b (.lst (dd [3, 4, 5]))) b = some (.lst (dd [3, 4, 5])) := upd_same
  generalize upd H2 b (.lst (dd [3, 4, 5])) = H3 at k3 hb ⊢
  refine ⟨a, b, _, _, rfl, rfl, k3.lst ha, hb, (by show 6 ≤ sizeLine; decide), fun e ne => ?_⟩
  rw [show dd [0, 1, 2] ++ dd [3, 4, 5] = dd [0, 1, 2, 3, 4, 5] from rfl]
  have k4 : Kx H3 (upd H3 e (.lst (dd [0, 1, 2, 3, 4, 5]))) := Kx.new ne
  have he : (upd H3 e (.lst (dd [0, 1, 2, 3, 4, 5]))) e = some (.lst (dd [0, 1, 2, 3, 4, 5])) := upd_same
  generalize upd H3 e (.lst (dd [0, 1, 2, 3, 4, 5])) = H4 at k4 he ⊢
  refine ⟨_, rfl, _, rfl, .ref c6, .ref c6, _, rfl, (fun u h => h), N.k i 6 C c6 hC rfl, _, rfl, .ref c7, .ref c7, _, rfl, (fun u h => h), N.k i 7 C c7 hC rfl, _, rfl, .ref c8, .ref c8, _, rfl, (fun u h => h), N.k i 8 C c8 hC rfl, (by show 3 ≤ sizeLine; decide), fun g ng => ?_⟩
  rw [show ([.bl (decide (6 = i)), .bl (decide (7 = i)), .bl (decide (8 = i))] : List V) = dd [6, 7, 8] from rfl]
  have k5 : Kx H4 (upd H4 g (.lst (dd [6, 7, 8]))) := Kx.new ng
  have hg : (upd H4 g (.lst (dd [6, 7, 8]))) g = some (.lst (dd [6, 7, 8])) := upd_same
  generalize upd H4 g (.lst (dd [6, 7, 8])) = H5 at k5 hg ⊢
  refine ⟨e, g, _, _, rfl, rfl, k5.lst he, hg, (by show 9 ≤ sizeLine; decide), fun o no => ?_⟩
  rw [show dd [0, 1, 2, 3, 4, 5] ++ dd [6, 7, 8] = dd (List.range 9) from rfl]
  have k6 : Kx H5 (upd H5 o (.lst (dd (List.range 9)))) := Kx.new no
  have ho : (upd H5 o (.lst (dd (List.range 9)))) o = some (.lst (dd (List.range 9))) := upd_same
  generalize upd H5 o (.lst (dd (List.range 9))) = H6 at k6 ho ⊢
  have k16 := k1.trans ((k2.trans k3).trans ((k4.trans k5).trans k6))
  refine ⟨_, rfl, 9, rfl, by decide, by decide, fun L nL => ?_⟩
  refine lc_range (lo := 0) (n := 9) (fun j Hx => Kx H6 Hx ∧ Hx L = some (.lst (dd ((List.range 9).take j)))) ⟨Kx.new nL, upd_same⟩ ?_ ?_
  · rintro j Hx hj ⟨kx, hL⟩
    refine ⟨rfl, yesT ?_⟩
    have e1 := range_take (n := 9) hj
    have ev : decide (V.int (0 + (j : Int)) = V.int (i : Int)) = decide (j = i) := decide_eq_decide.mpr ⟨fun z => by have := V.int.inj z; omega, fun z => by rw [z, Int.zero_add]⟩
    refine ⟨_, rfl, _, rfl, rfl, _, hL, ?_, kx.mut nL, ?_⟩
    · rw [List.length_map, List.length_take]
      exact lt80 (by omega)
    · rw [upd_same, ev, e1]
      show some (HO.lst (List.map _ _ ++ _)) = some (HO.lst (List.map _ (_ ++ _)))
      rw [List.map_append] <;> rfl
  · rintro Hx ⟨kx, hL⟩
    have hL : Hx L = some (.lst (dd (List.range 9))) := hL
    have em : ∀ l : List Nat, dd l = (l.map fun j => decide (j = i)).map V.bl := fun l => by
      rw [List.map_map] <;> rfl
    have ho' := kx.lst ho
    rw [em] at hL ho'
    refine ⟨bsD _, bsD _, bsD_dp (sq_of ho'), bsD_dp (sq_of hL), bsD_sh _, bsD_sh _, _, rfl, ?_⟩
    rw [bsD_eqv, decide_eq_true rfl]
    refine iteT ⟨_, rfl, .ty "ValueError", .type "ValueError", true, rfl, (fun u h => by cases h; rfl), N.v i C hC, ?_⟩
    exact q _ (k16.trans kx)
end
end CH
end

section
set_option Elab.async false
set_option linter.all false
set_option maxRecDepth 100000
set_option maxHeartbeats 4000000
namespace CH
open PySem PySem.Spec PyProof.Rows L2
section
variable {P : Program} {w : World} {K : PySem.W.Frag} {mg : Str → Option Value} {base : Heap} {c aA : Addr}
abbrev st_law_each : Stmt := top 68
abbrev nm_law_each : List Str := ["_law_asks", "_law_things", "_law_due", "_law_ask", "_law_thing"]
theorem sc_law_each : FnScope nm_law_each ["_law_asks", "_law_things", "_law_due"] (defScope st_law_each) := C8.fnScope_by (by decide +kernel)
theorem ok_law_each {cs : List Addr} (D : DefT K mg "_law_each" st_law_each c) (T : Tx K mg aA) (f__law_refused : C8.Cal P w K mg base 11 "_law_refused" (sp_refused P w K mg base cs) []) : C8.Cal P w K mg base 12 "_law_each" (sp_each P w K mg cs base) [] := by
  refine cal_of D sc_law_each (fun _ _ _ _ _ _ us hl => match us, hl with | [_, _, _], _ => rfl) (fun vs H Q E h => ?_) (fun fa A outer s H vs Q E hr h => ?_)
  · obtain ⟨la, lt, fs, ts, i, C, rfl, _⟩ := h
    rfl
  obtain ⟨la, lt, fs, ts, i, C, rfl, hla, hlt, l4, hC, hR, q⟩ := h
  have nd := sc_law_each.nd
  refine ⟨_, (pss_cons (ps_for PassesOwn.never rfl (pi_list (pv 0)) (pg_name (i := 3) nd rfl (Or.inr rfl)) (pss_one (ps_if (pt_not (pt_val (pe_callB (cr_all rfl) (by rfl) T.z_all (by decide +kernel) (pa_cons (pe_lc (own := [("_law_thing", 4)]) (g := gName 4) (tt := tYes) (by rfl) nd (pi_list (pv 1)) (blkOk_by (own := [("_law_thing", 4)]) (N := nm_law_each) (sc := defScope st_law_each) (by decide +kernel)) (fun _ _ _ _ _ => pg_name (i := 4) nd rfl (Or.inl rfl)) (fun _ _ _ _ _ => pts_nil) (fun _ _ _ _ _ => (C8.pe_c f__law_refused hr (by first | decide | exact hkp) (by rfl) (pa_cons (pv 3) (pa_cons (pv 4) (pa_cons (pv 2) pa_nil)))))) pa_nil)))) (pss_one (ps_ret pe_bl)) pss_nil)))
      (pss_one (ps_ret pe_bl))), ?_⟩
  refine ⟨_, rfl, la, rfl, ⟨_, sq_of hla⟩, for_list (K := K) (a := la) (xs := fs.map V.ref) (fun j σ H2 => ∃ (v3 v4 : Option V), σ = [some (.ref la), some (.ref lt), some (.int (i : Int)), v3, v4] ∧ Kx H H2)
      ⟨none, none, rfl, Kx.refl H⟩ (fun j σ H2 _ ⟨_, _, _, k2⟩ => k2.l (sq_of hla)) ?_ ?_⟩
  · rintro j y σ H2 hj ⟨v3, v4, rfl, k2⟩
    obtain ⟨f, hf, rfl⟩ : ∃ t, fs[j]? = some t ∧ V.ref t = y := by
      rw [List.getElem?_map] at hj
      exact Option.map_eq_some_iff.mp hj
    have hfm := List.mem_of_getElem? hf
    refine ⟨_, rfl, lt, rfl, ⟨_, k2.l (sq_of hlt)⟩, fun D0 nD => ?_⟩
    refine lc_list (K := K) (a := lt) (xs := ts) (fun n H3 => Kx H2 H3 ∧ H3 D0 = some (.lst ((List.replicate n true).map V.bl))) ⟨Kx.new nD, upd_same⟩ (fun n H3 _ h => h.1.l (k2.l (sq_of hlt))) ?_ ?_
    · rintro n y H3 hn ⟨k3, hD⟩
      have k23 := k2.trans k3
      have ln := (List.getElem?_eq_some_iff.mp hn).1
      refine ⟨rfl, yesT ?_⟩
      refine ⟨_, rfl, _, rfl, _, rfl, f, y, i, C, rfl, hC, (hR f hfm y (List.mem_of_getElem? hn)).k k23, fun H4 k4 => ⟨_, k4.lst hD, ?_, (k3.trans k4).mut nD, ?_⟩⟩
      · rw [List.length_map, List.length_replicate]
        exact lt80 (by omega)
      · rw [upd_same, List.replicate_succ', List.map_append] <;> rfl
    · rintro H3 ⟨k3, hD⟩
      have e : (List.replicate ts.length true).all id = true := by rw [List.all_eq_true]; intro b hb; exact (List.mem_replicate.mp hb).2
      refine ⟨D0, List.replicate ts.length true, rfl, sq_of hD, _, rfl, ?_⟩
      rw [e]
      exact iteF ⟨_, _, rfl, k2.trans k3⟩
  · rintro σ H2 ⟨v3, v4, rfl, k2⟩
    exact q H2 k2
end
end CH
end

section
set_option Elab.async false
set_option linter.all false
set_option maxRecDepth 100000
set_option maxHeartbeats 4000000
namespace CH
open PySem PySem.Spec PyProof.Rows L2
section
variable {P : Program} {w : World} {K : PySem.W.Frag} {mg : Str → Option Value} {base : Heap} {c aA : Addr}
abbrev st_law_no_numbers : Stmt := top 69
abbrev nm_law_no_numbers : List Str := ["_law_more"]
theorem sc_law_no_numbers : FnScope nm_law_no_numbers ["_law_more"] (defScope st_law_no_numbers) := C8.fnScope_by (by decide +kernel)
def sp_no_numbers : Sp := fun vs H Q _ => ∃ (S : List Addr) (m : Int), vs = [.int m] ∧ (∀ b ∈ S, H b ≠ none) ∧ ∀ v H', Nw H H' → At (wo S H') (.lst (numsD m)) v → Q v H'
theorem ok_law_no_numbers (D : DefT K mg "_law_no_numbers" st_law_no_numbers c) : C8.Cal P w K mg base 1 "_law_no_numbers" sp_no_numbers [] := by
  refine cal_of D sc_law_no_numbers (fun _ _ _ _ _ _ us hl => match us, hl with | [_], _ => rfl) (fun vs H Q E h => ?_) (fun fa A outer s H vs Q E hr h => ?_)
  · obtain ⟨S, m, rfl, _⟩ := h
    rfl
  obtain ⟨S, m, rfl, hS, q⟩ := h
  have nd := sc_law_no_numbers.nd
  refine ⟨_, (pss_one (ps_ret (pe_lst (pa_cons pe_non (pa_cons pe_str (pa_cons pe_bl (pa_cons pe_bl (pa_cons (pe_lst (pa_cons pe_int pa_nil)) (pa_cons (pe_tup (pa_cons pe_int pa_nil)) (pa_cons pe_dnewK (pa_cons (pe_un un_neg pe_int) (pa_cons (pe_op op_sub (pe_un un_neg pe_int) (pv 0)) pa_nil)))))))))))), ?_⟩
  show tLst _ _ _ _
  refine ma_use (S := S) (Γ := []) (d := .lst (numsD m)) ?_ (fun x hx => absurd hx List.not_mem_nil) hS fun v H1 n1 h1 => q v H1 n1 h1
  unfold numsD
  repeat' (first | exact mks_nil | apply mks_cons | exact mk_non | exact mk_bl | exact mk_int | exact mk_str | exact mk_neg | exact mk_dct | exact mk_varI rfl | exact mk_var rfl List.mem_cons_self | exact mk_var rfl (List.mem_cons_of_mem _ List.mem_cons_self) | exact mk_var rfl (List.mem_cons_of_mem _ (List.mem_cons_of_mem _ List.mem_cons_self)) | apply mk_tup | apply mk_lst | apply mk_add | apply mk_sub | apply mk_rep | apply mk_list | apply mk_take | apply mk_catT | apply mk_cat | exact Nat.le_of_ble_eq_true rfl | exact List.cons_ne_nil _ _)
abbrev st_law_no_words : Stmt := top 70
abbrev nm_law_no_words : List Str := ["_law_more", "_law_good", "_law_found", "_law_one", "_law_word"]
theorem sc_law_no_words : FnScope nm_law_no_words ["_law_more"] (defScope st_law_no_words) := C8.fnScope_by (by decide +kernel)
def sp_no_words : Sp := fun vs H Q _ => ∃ (m : Int), vs = [.int m] ∧ 0 ≤ m ∧ ∀ v H' ds, Nw H H' → At H' (.lst ds) v → ds.length ≤ 400 → (∀ d ∈ ds, wordsB d = false) → Q v H'
abbrev goodT : Th := .tup [.int 1, .int 0, .int 0, .int 0, .str "yes"]
theorem ok_law_no_words (D : DefT K mg "_law_no_words" st_law_no_words c) (T : Tx K mg aA) (f__law_no_numbers : C8.Cal P w K mg base 1 "_law_no_numbers" sp_no_numbers []) : C8.Cal P w K mg base 2 "_law_no_words" sp_no_words [] := by
  refine cal_of D sc_law_no_words (fun _ _ _ _ _ _ us hl => match us, hl with | [_], _ => rfl) (fun vs H Q E h => ?_) (fun fa A outer s H vs Q E hr h => ?_)
  · obtain ⟨m, rfl, _⟩ := h
    rfl
  obtain ⟨m, rfl, m0, q⟩ := h
  have nd := sc_law_no_words.nd
  refine ⟨_, (pss_cons (ps_set (i := 1) nd rfl (Or.inl rfl) (pe_tup (pa_cons pe_int (pa_cons pe_int (pa_cons pe_int (pa_cons pe_int (pa_cons pe_str pa_nil)))))))
      (pss_cons (ps_set (i := 2) nd rfl (Or.inl rfl) (pe_lst (pa_cons pe_non (pa_cons pe_int (pa_cons pe_str (pa_cons (pe_tup pa_nil) (pa_cons (pe_tup (pa_cons (pv 1) pa_nil)) (pa_cons pe_dnewK (pa_cons (pe_op op_rep (pe_lst (pa_cons (pv 1) pa_nil)) pe_int) (pa_cons (pe_lst (pa_cons pe_non pa_nil)) (pa_cons (pe_lst (pa_cons (pe_tup pa_nil) pa_nil)) (pa_cons (pe_lst (pa_cons (pe_callTy call_list_of (by rfl) T.z_list (by decide +kernel) (pa_cons (pv 1) pa_nil)) pa_nil)) (pa_cons (pe_lst (pa_cons (pe_slice sl_tup (pv 1) po_none (po_some pe_int)) pa_nil)) (pa_cons (pe_lst (pa_cons (pe_op op_catT (pv 1) (pe_tup (pa_cons pe_int pa_nil))) pa_nil)) pa_nil))))))))))))))
      (pss_cons (ps_set (i := 2) nd rfl (Or.inl rfl) (pe_op op_cat (pv 2) (pe_lst (pa_cons (pe_lst (pa_cons (pe_tup (pa_cons pe_int (pa_cons pe_int (pa_cons pe_int (pa_cons pe_int (pa_cons pe_str pa_nil)))))) pa_nil)) (pa_cons (pe_lst (pa_cons (pe_tup (pa_cons pe_int (pa_cons pe_int (pa_cons pe_int (pa_cons pe_int (pa_cons pe_str pa_nil)))))) pa_nil)) (pa_cons (pe_lst (pa_cons (pe_tup (pa_cons pe_int (pa_cons pe_int (pa_cons pe_int (pa_cons pe_int (pa_cons pe_str pa_nil)))))) pa_nil)) (pa_cons (pe_lst (pa_cons (pe_tup (pa_cons pe_int (pa_cons pe_int (pa_cons pe_int (pa_cons pe_int (pa_cons pe_str pa_nil)))))) pa_nil)) pa_nil)))))))
      (pss_cons (ps_expr (pe_bm PySem.F.plainAttrs_list PySem.F.slot_list_append PySem.F.type_list_append mt_append (pv 2) (pa_cons (pe_lst (pa_cons (pe_tup (pa_cons pe_int (pa_cons pe_int (pa_cons pe_int (pa_cons pe_int (pa_cons pe_str pa_nil)))))) pa_nil)) pa_nil)))
      (pss_cons (ps_set (i := 2) nd rfl (Or.inl rfl) (pe_op op_cat (pv 2) (pe_lst (pa_cons (pe_lst (pa_cons (pv 1) (pa_cons (pe_tup (pa_cons (pe_op op_add pe_int (pv 0)) (pa_cons pe_int (pa_cons pe_int (pa_cons pe_int (pa_cons pe_str pa_nil)))))) pa_nil))) (pa_cons (pe_lst (pa_cons (pv 1) (pa_cons (pe_tup (pa_cons pe_int (pa_cons (pe_op op_add pe_int (pv 0)) (pa_cons pe_int (pa_cons pe_int (pa_cons pe_str pa_nil)))))) pa_nil))) pa_nil)))))
      (pss_cons (ps_for PassesOwn.never rfl (pi_list (C8.pe_c f__law_no_numbers hr (by first | decide | exact hkp) (by rfl) (pa_cons (pv 0) pa_nil))) (pg_name (i := 3) nd rfl (Or.inl rfl)) (pss_cons (ps_expr (pe_bm PySem.F.plainAttrs_list PySem.F.slot_list_extend PySem.F.type_list_extend mt_extend (pv 2) (pa_cons (pe_lst (pa_cons (pe_lst (pa_cons (pe_tup (pa_cons (pv 3) (pa_cons pe_int (pa_cons pe_int (pa_cons pe_int (pa_cons pe_str pa_nil)))))) pa_nil)) (pa_cons (pe_lst (pa_cons (pe_tup (pa_cons pe_int (pa_cons (pv 3) (pa_cons pe_int (pa_cons pe_int (pa_cons pe_str pa_nil)))))) pa_nil)) (pa_cons (pe_lst (pa_cons (pe_tup (pa_cons pe_int (pa_cons pe_int (pa_cons (pv 3) (pa_cons pe_int (pa_cons pe_str pa_nil)))))) pa_nil)) pa_nil)))) pa_nil)))
      (pss_one (ps_expr (pe_bm PySem.F.plainAttrs_list PySem.F.slot_list_append PySem.F.type_list_append mt_append (pv 2) (pa_cons (pe_op op_cat (pe_op op_rep (pe_lst (pa_cons (pv 1) pa_nil)) pe_int) (pe_lst (pa_cons (pe_tup (pa_cons pe_int (pa_cons pe_int (pa_cons pe_int (pa_cons (pv 3) (pa_cons pe_str pa_nil)))))) pa_nil))) pa_nil))))))
      (pss_cons (ps_for PassesOwn.never rfl (pi_list (pe_lst (pa_cons pe_non (pa_cons pe_int (pa_cons pe_bl (pa_cons pe_str (pa_cons pe_str (pa_cons pe_str (pa_cons pe_str (pa_cons pe_str (pa_cons (pe_lst (pa_cons pe_str pa_nil)) (pa_cons (pe_tup (pa_cons pe_str pa_nil)) (pa_cons pe_dnewK (pa_cons pe_str (pa_cons pe_str pa_nil))))))))))))))) (pg_name (i := 4) nd rfl (Or.inl rfl)) (pss_one (ps_expr (pe_bm PySem.F.plainAttrs_list PySem.F.slot_list_extend PySem.F.type_list_extend mt_extend (pv 2) (pa_cons (pe_lst (pa_cons (pe_lst (pa_cons (pe_tup (pa_cons pe_int (pa_cons pe_int (pa_cons pe_int (pa_cons pe_int (pa_cons (pv 4) pa_nil)))))) pa_nil)) (pa_cons (pe_lst (pa_cons (pv 1) (pa_cons (pe_tup (pa_cons pe_int (pa_cons pe_int (pa_cons pe_int (pa_cons pe_int (pa_cons (pv 4) pa_nil)))))) pa_nil))) pa_nil))) pa_nil)))))
      (pss_one (ps_ret (pe_op op_cat (pv 2) (pe_lst (pa_cons (pe_lst (pa_cons (pe_tup (pa_cons pe_int (pa_cons pe_int (pa_cons pe_int (pa_cons pe_int (pa_cons pe_str pa_nil)))))) (pa_cons (pe_tup (pa_cons pe_int (pa_cons pe_int (pa_cons pe_int (pa_cons pe_int (pa_cons pe_str pa_nil)))))) (pa_cons pe_non pa_nil)))) pa_nil)))))))))))), ?_⟩
  refine asg_ma (S := []) (Γ := []) (d := goodT) (by repeat' (first | exact mks_nil | apply mks_cons | exact mk_non | exact mk_bl | exact mk_int | exact mk_str | exact mk_neg | exact mk_dct | exact mk_varI rfl | exact mk_var rfl List.mem_cons_self | exact mk_var rfl (List.mem_cons_of_mem _ List.mem_cons_self) | exact mk_var rfl (List.mem_cons_of_mem _ (List.mem_cons_of_mem _ List.mem_cons_self)) | apply mk_tup | apply mk_lst | apply mk_add | apply mk_sub | apply mk_rep | apply mk_list | apply mk_take | apply mk_catT | apply mk_cat | exact Nat.le_of_ble_eq_true rfl | exact List.cons_ne_nil _ _)) gam0 noS fun g H1 n1 hG => ?_
  refine asg_lst (S := []) (Γ := [(g, goodT)]) (by repeat' (first | exact mks_nil | apply mks_cons | exact mk_non | exact mk_bl | exact mk_int | exact mk_str | exact mk_neg | exact mk_dct | exact mk_varI rfl | exact mk_var rfl List.mem_cons_self | exact mk_var rfl (List.mem_cons_of_mem _ List.mem_cons_self) | exact mk_var rfl (List.mem_cons_of_mem _ (List.mem_cons_of_mem _ List.mem_cons_self)) | apply mk_tup | apply mk_lst | apply mk_add | apply mk_sub | apply mk_rep | apply mk_list | apply mk_take | apply mk_catT | apply mk_cat | exact Nat.le_of_ble_eq_true rfl | exact List.cons_ne_nil _ _)) (by exact Nat.le_of_ble_eq_true rfl) (gam1 hG) noS fun p2 H2 n2 np2 o2 => ?_
  obtain ⟨ds2, o2, b2⟩ : ∃ ds, Own1 [] H2 p2 ds ∧ Nol wordsB 20 ds := ⟨_, o2, Nat.le_of_ble_eq_true rfl, all_no (by decide +kernel)⟩
  have hG2 := hG.k n2.kx
  refine asg_cat (S := []) (Γ := [(V.ref p2, .lst ds2)]) (ds := ds2) (mk_var rfl List.mem_cons_self) (by repeat' (first | exact mks_nil | apply mks_cons | exact mk_non | exact mk_bl | exact mk_int | exact mk_str | exact mk_neg | exact mk_dct | exact mk_varI rfl | exact mk_var rfl List.mem_cons_self | exact mk_var rfl (List.mem_cons_of_mem _ List.mem_cons_self) | exact mk_var rfl (List.mem_cons_of_mem _ (List.mem_cons_of_mem _ List.mem_cons_self)) | apply mk_tup | apply mk_lst | apply mk_add | apply mk_sub | apply mk_rep | apply mk_list | apply mk_take | apply mk_catT | apply mk_cat | exact Nat.le_of_ble_eq_true rfl | exact List.cons_ne_nil _ _)) (Nat.le_trans (Nat.add_le_add_right b2.1 _) (by exact Nat.le_of_ble_eq_true rfl)) (gam1 o2.at.w0) noS fun p3 H3 n3 np3 o3 => ?_
  obtain ⟨ds3, o3, b3⟩ : ∃ ds, Own1 [] H3 p3 ds ∧ Nol wordsB 40 ds := ⟨_, o3, b2.app (m := 20) ⟨Nat.le_of_ble_eq_true rfl, all_no (by decide +kernel)⟩⟩
  have g3 : Gr wordsB H1 H3 p3 40 := ⟨n2.trans n3, n2.kx.f _ np3, ds3, o3, b3⟩
  clear o2 b2 hG2 n2 np2 o3 b3 n3 np3
  refine seq_of (g3.app rfl (by repeat' (first | exact mks_nil | apply mks_cons | exact mk_non | exact mk_bl | exact mk_int | exact mk_str | exact mk_neg | exact mk_dct | exact mk_varI rfl | exact mk_var rfl List.mem_cons_self | exact mk_var rfl (List.mem_cons_of_mem _ List.mem_cons_self) | exact mk_var rfl (List.mem_cons_of_mem _ (List.mem_cons_of_mem _ List.mem_cons_self)) | apply mk_tup | apply mk_lst | apply mk_add | apply mk_sub | apply mk_rep | apply mk_list | apply mk_take | apply mk_catT | apply mk_cat | exact Nat.le_of_ble_eq_true rfl | exact List.cons_ne_nil _ _)) (by decide) (by decide +kernel) gam0 fun H4 g4 _ => ?_)
  obtain ⟨ds4, o4, b4⟩ := g4.o
  have hG1 : At H1 goodT g := by rw [wo_nil] at hG; exact hG
  have hG4 := hG1.k g4.k.kx
  refine asg_cat (S := []) (Γ := [(V.ref p3, .lst ds4), (g, goodT)]) (ds := ds4) (mk_var rfl List.mem_cons_self) (by repeat' (first | exact mks_nil | apply mks_cons | exact mk_non | exact mk_bl | exact mk_int | exact mk_str | exact mk_neg | exact mk_dct | exact mk_varI rfl | exact mk_var rfl List.mem_cons_self | exact mk_var rfl (List.mem_cons_of_mem _ List.mem_cons_self) | exact mk_var rfl (List.mem_cons_of_mem _ (List.mem_cons_of_mem _ List.mem_cons_self)) | apply mk_tup | apply mk_lst | apply mk_add | apply mk_sub | apply mk_rep | apply mk_list | apply mk_take | apply mk_catT | apply mk_cat | exact Nat.le_of_ble_eq_true rfl | exact List.cons_ne_nil _ _)) (Nat.le_trans (Nat.add_le_add_right b4.1 _) (by exact Nat.le_of_ble_eq_true rfl)) (gam2 o4.at.w0 hG4.w0) noS fun p5 H5 n5 np5 o5 => ?_
  have g5 : Gr wordsB H1 H5 p5 43 := by
    refine ⟨g4.k.trans n5, g4.k.kx.f _ np5, _, o5, b4.app (m := 2) (nol_cons (words_one (List.mem_cons_of_mem _ List.mem_cons_self) (wB_c (decide_eq_false ?_))) (nol_cons (words_one (List.mem_cons_of_mem _ List.mem_cons_self) (wB_h (decide_eq_false ?_))) nol_nil))⟩
    · omega
    · omega
  clear o5 n5 np5 hG4 o4 b4 g4 g3
  refine seq_of (for_any (S := [p5]) (ds := numsD m) (fun Q' hq => ⟨_, rfl, [p5], m, rfl, g5.pS, hq⟩) fun r H6 n6 hv => ?_)
  have g6 := g5.nw n6
  have nn := noN_nums m0
  have ln : (numsD m).length = 9 := rfl
  generalize numsD m = nums at hv nn ln
  refine for_gr (m := 4) g6 hv rfl (fun i y d Hx E hd hi gx hy more => ?_) fun v7 H7 g7 => ?_
  · have hdn := nn d hd
    refine seq_of ?_
    refine gx.ext (m := 3) (Γ := [(y, d)]) (es := [.lst [.tup [d, .int 0, .int 0, .int 0, .str "no"]], .lst [.tup [.int 1, d, .int 0, .int 0, .str "no"]], .lst [.tup [.int 1, .int 0, d, .int 0, .str "no"]]]) rfl ?_ ?_ ?_ (gam1 hy) fun Hy gy sy => ?_
    · repeat' (first | exact mks_nil | apply mks_cons | exact mk_non | exact mk_bl | exact mk_int | exact mk_str | exact mk_neg | exact mk_dct | exact mk_varI rfl | exact mk_var rfl List.mem_cons_self | exact mk_var rfl (List.mem_cons_of_mem _ List.mem_cons_self) | exact mk_var rfl (List.mem_cons_of_mem _ (List.mem_cons_of_mem _ List.mem_cons_self)) | apply mk_tup | apply mk_lst | apply mk_add | apply mk_sub | apply mk_rep | apply mk_list | apply mk_take | apply mk_catT | apply mk_cat | exact Nat.le_of_ble_eq_true rfl | exact List.cons_ne_nil _ _)
    · omega
    · exact nol_cons (words_one List.mem_cons_self (noN_c hdn)) (nol_cons (words_one List.mem_cons_self (noN_h hdn)) (nol_cons (words_one List.mem_cons_self (noN_p hdn)) nol_nil))
    dsimp only
    refine gy.app (Γ := [(g, goodT), (y, d)]) (d := .lst ((List.replicate 9 [goodT]).flatten ++ [.tup [.int 1, .int 0, .int 0, d, .str "no"]])) rfl ?_ ?_ ?_ (gam2 (at_wo gy.k.kx gy.np hG1) (hy.mono sy)) fun Hz gz sz => ?_
    · repeat' (first | exact mks_nil | apply mks_cons | exact mk_non | exact mk_bl | exact mk_int | exact mk_str | exact mk_neg | exact mk_dct | exact mk_varI rfl | exact mk_var rfl List.mem_cons_self | exact mk_var rfl (List.mem_cons_of_mem _ List.mem_cons_self) | exact mk_var rfl (List.mem_cons_of_mem _ (List.mem_cons_of_mem _ List.mem_cons_self)) | apply mk_tup | apply mk_lst | apply mk_add | apply mk_sub | apply mk_rep | apply mk_list | apply mk_take | apply mk_catT | apply mk_cat | exact Nat.le_of_ble_eq_true rfl | exact List.cons_ne_nil _ _)
    · omega
    · exact words_one (List.mem_append_right _ List.mem_cons_self) (noN_o hdn)
    · exact more Hz gz fun b u e x => sz b u (sy b u e x) x
  rw [ln] at g7
  dsimp only
  refine seq_of (for_ma (S := [p5]) (Γ := []) (by repeat' (first | exact mks_nil | apply mks_cons | exact mk_non | exact mk_bl | exact mk_int | exact mk_str | exact mk_neg | exact mk_dct | exact mk_varI rfl | exact mk_var rfl List.mem_cons_self | exact mk_var rfl (List.mem_cons_of_mem _ List.mem_cons_self) | exact mk_var rfl (List.mem_cons_of_mem _ (List.mem_cons_of_mem _ List.mem_cons_self)) | apply mk_tup | apply mk_lst | apply mk_add | apply mk_sub | apply mk_rep | apply mk_list | apply mk_take | apply mk_catT | apply mk_cat | exact Nat.le_of_ble_eq_true rfl | exact List.cons_ne_nil _ _)) gam0 g7.pS fun r8 ys8 H8 n8 _ hr8 _ => ?_)
  have g8 := g7.nw n8
  obtain ⟨ws, ews, hr8, lws, nws⟩ : ∃ ws : List Th, ws = ws ∧ At (wo [p5] H8) (.lst ws) (.ref r8) ∧ ws.length = 13 ∧ ∀ d ∈ ws, ansB d = false := ⟨_, rfl, hr8, rfl, all_no (by decide +kernel)⟩
  clear ews
  refine for_gr (m := 2) g8 hr8 rfl (fun i y d Hx E hd hi gx hy more => ?_) fun v9 H9 g9 => ?_
  · have hdn := nws d hd
    refine gx.ext (m := 2) (Γ := [(g, goodT), (y, d)]) (es := [.lst [.tup [.int 1, .int 0, .int 0, .int 0, d]], .lst [goodT, .tup [.int 2, .int 0, .int 0, .int 0, d]]]) rfl ?_ ?_ ?_ (gam2 (at_wo gx.k.kx gx.np hG1) hy) fun Hy gy sy => more Hy gy sy
    · repeat' (first | exact mks_nil | apply mks_cons | exact mk_non | exact mk_bl | exact mk_int | exact mk_str | exact mk_neg | exact mk_dct | exact mk_varI rfl | exact mk_var rfl List.mem_cons_self | exact mk_var rfl (List.mem_cons_of_mem _ List.mem_cons_self) | exact mk_var rfl (List.mem_cons_of_mem _ (List.mem_cons_of_mem _ List.mem_cons_self)) | apply mk_tup | apply mk_lst | apply mk_add | apply mk_sub | apply mk_rep | apply mk_list | apply mk_take | apply mk_catT | apply mk_cat | exact Nat.le_of_ble_eq_true rfl | exact List.cons_ne_nil _ _)
    · omega
    · exact nol_cons (words_one List.mem_cons_self (noA hdn)) (nol_cons (words_one (List.mem_cons_of_mem _ List.mem_cons_self) (noA hdn)) nol_nil)
  rw [lws] at g9
  obtain ⟨ds9, o9, b9⟩ := g9.o
  dsimp only
  refine ret_ma (S := []) (Γ := [(V.ref p5, .lst ds9)]) (d := .lst (ds9 ++ [.lst [.tup [.int 1, .int 0, .int 0, .int 0, .str "yes"], .tup [.int 1, .int 0, .int 0, .int 0, .str "no"], .non]])) ?_ (gam1 o9.at.w0) noS fun v HA nA hA => ?_
  · refine mk_cat (mk_var rfl List.mem_cons_self) ?_ (Nat.le_trans (Nat.add_le_add_right b9.1 _) (by exact Nat.le_of_ble_eq_true rfl))
    repeat' (first | exact mks_nil | apply mks_cons | exact mk_non | exact mk_bl | exact mk_int | exact mk_str | exact mk_neg | exact mk_dct | exact mk_varI rfl | exact mk_var rfl List.mem_cons_self | exact mk_var rfl (List.mem_cons_of_mem _ List.mem_cons_self) | exact mk_var rfl (List.mem_cons_of_mem _ (List.mem_cons_of_mem _ List.mem_cons_self)) | apply mk_tup | apply mk_lst | apply mk_add | apply mk_sub | apply mk_rep | apply mk_list | apply mk_take | apply mk_catT | apply mk_cat | exact Nat.le_of_ble_eq_true rfl | exact List.cons_ne_nil _ _)
  rw [wo_nil] at hA
  have bA := b9.app (m := 1) (nol_cons (f := wordsB) (d := .lst [.tup [.int 1, .int 0, .int 0, .int 0, .str "yes"], .tup [.int 1, .int 0, .int 0, .int 0, .str "no"], .non]) (by decide +kernel) nol_nil)
  exact q v HA _ ((n1.trans g9.k).trans nA) hA (Nat.le_trans bA.1 (by decide)) bA.2
abbrev st_law_no_meetings : Stmt := top 71
abbrev nm_law_no_meetings : List Str := ["_law_more", "_law_found", "_law_one"]
theorem sc_law_no_meetings : FnScope nm_law_no_meetings ["_law_more"] (defScope st_law_no_meetings) := C8.fnScope_by (by decide +kernel)
def sp_no_meetings : Sp := fun vs H Q _ => ∃ (m : Int), vs = [.int m] ∧ 0 ≤ m ∧ ∀ v H' ds, Nw H H' → At H' (.lst ds) v → ds.length ≤ 400 → (∀ d ∈ ds, meetB d = false) → Q v H'
theorem ok_law_no_meetings (D : DefT K mg "_law_no_meetings" st_law_no_meetings c) (T : Tx K mg aA) (f__law_no_numbers : C8.Cal P w K mg base 1 "_law_no_numbers" sp_no_numbers []) : C8.Cal P w K mg base 2 "_law_no_meetings" sp_no_meetings [] := by
  refine cal_of D sc_law_no_meetings (fun _ _ _ _ _ _ us hl => match us, hl with | [_], _ => rfl) (fun vs H Q E h => ?_) (fun fa A outer s H vs Q E hr h => ?_)
  · obtain ⟨m, rfl, _⟩ := h
    rfl
  obtain ⟨m, rfl, m0, q⟩ := h
  have nd := sc_law_no_meetings.nd
  refine ⟨_, (pss_cons (ps_set (i := 1) nd rfl (Or.inl rfl) (pe_lst (pa_cons pe_non (pa_cons pe_int (pa_cons pe_str (pa_cons (pe_tup pa_nil) (pa_cons (pe_lst (pa_cons (pe_tup (pa_cons pe_int pa_nil)) (pa_cons pe_int (pa_cons (pe_tup pa_nil) pa_nil)))) (pa_cons (pe_tup (pa_cons (pe_tup (pa_cons pe_int pa_nil)) (pa_cons pe_int pa_nil))) (pa_cons (pe_tup (pa_cons (pe_tup (pa_cons pe_int pa_nil)) (pa_cons pe_int (pa_cons (pe_tup pa_nil) (pa_cons pe_int pa_nil))))) (pa_cons pe_dnewK (pa_cons (pe_tup (pa_cons (pe_lst (pa_cons pe_int pa_nil)) (pa_cons pe_int (pa_cons (pe_tup pa_nil) pa_nil)))) (pa_cons (pe_tup (pa_cons (pe_tup (pa_cons pe_int pa_nil)) (pa_cons pe_int (pa_cons (pe_lst pa_nil) pa_nil)))) pa_nil))))))))))))
      (pss_cons (ps_set (i := 1) nd rfl (Or.inl rfl) (pe_op op_cat (pv 1) (pe_lst (pa_cons (pe_tup (pa_cons (pe_tup pa_nil) (pa_cons pe_int (pa_cons (pe_tup pa_nil) pa_nil)))) (pa_cons (pe_tup (pa_cons (pe_tup pa_nil) (pa_cons pe_int (pa_cons (pe_tup pa_nil) pa_nil)))) (pa_cons (pe_tup (pa_cons (pe_tup (pa_cons pe_int pa_nil)) (pa_cons pe_int (pa_cons (pe_tup pa_nil) pa_nil)))) (pa_cons (pe_tup (pa_cons (pe_tup (pa_cons pe_int pa_nil)) (pa_cons pe_int (pa_cons (pe_tup pa_nil) pa_nil)))) (pa_cons (pe_tup (pa_cons (pe_tup (pa_cons pe_int (pa_cons pe_int pa_nil))) (pa_cons (pe_op op_add pe_int (pv 0)) (pa_cons (pe_tup pa_nil) pa_nil)))) (pa_cons (pe_tup (pa_cons (pe_tup (pa_cons pe_int (pa_cons pe_int pa_nil))) (pa_cons pe_int (pa_cons (pe_tup pa_nil) pa_nil)))) pa_nil)))))))))
      (pss_cons (ps_set (i := 1) nd rfl (Or.inl rfl) (pe_op op_cat (pv 1) (pe_lst (pa_cons (pe_tup (pa_cons (pe_tup (pa_cons pe_int (pa_cons pe_int pa_nil))) (pa_cons pe_int (pa_cons (pe_tup pa_nil) pa_nil)))) (pa_cons (pe_tup (pa_cons (pe_tup (pa_cons pe_int pa_nil)) (pa_cons pe_int (pa_cons (pe_tup pa_nil) pa_nil)))) (pa_cons (pe_tup (pa_cons (pe_tup (pa_cons pe_int (pa_cons (pe_op op_add pe_int (pv 0)) pa_nil))) (pa_cons pe_int (pa_cons (pe_tup pa_nil) pa_nil)))) (pa_cons (pe_tup (pa_cons (pe_tup (pa_cons pe_int (pa_cons pe_int pa_nil))) (pa_cons pe_int (pa_cons (pe_tup (pa_cons pe_int pa_nil)) pa_nil)))) pa_nil)))))))
      (pss_cons (ps_set (i := 1) nd rfl (Or.inl rfl) (pe_op op_cat (pv 1) (pe_lst (pa_cons (pe_tup (pa_cons (pe_tup (pa_cons pe_int (pa_cons pe_int pa_nil))) (pa_cons pe_int (pa_cons (pe_tup (pa_cons pe_int (pa_cons pe_int pa_nil))) pa_nil)))) (pa_cons (pe_tup (pa_cons (pe_tup (pa_cons pe_int (pa_cons pe_int pa_nil))) (pa_cons pe_int (pa_cons (pe_tup (pa_cons pe_int (pa_cons pe_int pa_nil))) pa_nil)))) pa_nil)))))
      (pss_cons (ps_for PassesOwn.never rfl (pi_list (C8.pe_c f__law_no_numbers hr (by first | decide | exact hkp) (by rfl) (pa_cons (pv 0) pa_nil))) (pg_name (i := 2) nd rfl (Or.inl rfl)) (pss_cons (ps_expr (pe_bm PySem.F.plainAttrs_list PySem.F.slot_list_extend PySem.F.type_list_extend mt_extend (pv 1) (pa_cons (pe_lst (pa_cons (pe_tup (pa_cons (pe_tup (pa_cons (pv 2) pa_nil)) (pa_cons pe_int (pa_cons (pe_tup pa_nil) pa_nil)))) (pa_cons (pe_tup (pa_cons (pe_tup (pa_cons pe_int (pa_cons (pv 2) pa_nil))) (pa_cons pe_int (pa_cons (pe_tup pa_nil) pa_nil)))) (pa_cons (pe_tup (pa_cons (pe_tup (pa_cons pe_int (pa_cons pe_int pa_nil))) (pa_cons (pv 2) (pa_cons (pe_tup pa_nil) pa_nil)))) (pa_cons (pe_tup (pa_cons (pe_tup (pa_cons pe_int (pa_cons pe_int pa_nil))) (pa_cons pe_int (pa_cons (pe_tup (pa_cons (pv 2) pa_nil)) pa_nil)))) pa_nil))))) pa_nil)))
      (pss_one (ps_expr (pe_bm PySem.F.plainAttrs_list PySem.F.slot_list_append PySem.F.type_list_append mt_append (pv 1) (pa_cons (pe_tup (pa_cons (pe_tup (pa_cons pe_int (pa_cons pe_int (pa_cons pe_int (pa_cons (pv 2) pa_nil))))) (pa_cons pe_int (pa_cons (pe_tup (pa_cons pe_int pa_nil)) pa_nil)))) pa_nil))))))
      (pss_one (ps_ret (pv 1)))))))), ?_⟩
  refine asg_lst (S := []) (Γ := []) (by repeat' (first | exact mks_nil | apply mks_cons | exact mk_non | exact mk_bl | exact mk_int | exact mk_str | exact mk_neg | exact mk_dct | exact mk_varI rfl | exact mk_var rfl List.mem_cons_self | exact mk_var rfl (List.mem_cons_of_mem _ List.mem_cons_self) | exact mk_var rfl (List.mem_cons_of_mem _ (List.mem_cons_of_mem _ List.mem_cons_self)) | apply mk_tup | apply mk_lst | apply mk_add | apply mk_sub | apply mk_rep | apply mk_list | apply mk_take | apply mk_catT | apply mk_cat | exact Nat.le_of_ble_eq_true rfl | exact List.cons_ne_nil _ _)) (by exact Nat.le_of_ble_eq_true rfl) gam0 noS fun p2 H2 n2 np2 o2 => ?_
  obtain ⟨ds2, o2, b2⟩ : ∃ ds, Own1 [] H2 p2 ds ∧ Nol meetB 20 ds := ⟨_, o2, Nat.le_of_ble_eq_true rfl, all_no (by decide +kernel)⟩
  refine asg_cat (S := []) (Γ := [(V.ref p2, .lst ds2)]) (ds := ds2) (mk_var rfl List.mem_cons_self) (by repeat' (first | exact mks_nil | apply mks_cons | exact mk_non | exact mk_bl | exact mk_int | exact mk_str | exact mk_neg | exact mk_dct | exact mk_varI rfl | exact mk_var rfl List.mem_cons_self | exact mk_var rfl (List.mem_cons_of_mem _ List.mem_cons_self) | exact mk_var rfl (List.mem_cons_of_mem _ (List.mem_cons_of_mem _ List.mem_cons_self)) | apply mk_tup | apply mk_lst | apply mk_add | apply mk_sub | apply mk_rep | apply mk_list | apply mk_take | apply mk_catT | apply mk_cat | exact Nat.le_of_ble_eq_true rfl | exact List.cons_ne_nil _ _)) (Nat.le_trans (Nat.add_le_add_right b2.1 _) (by exact Nat.le_of_ble_eq_true rfl)) (gam1 o2.at.w0) noS fun p3 H3 n3 np3 o3 => ?_
  obtain ⟨ds3, o3, b3⟩ : ∃ ds, Own1 [] H3 p3 ds ∧ Nol meetB 26 ds := ⟨_, o3, b2.app (m := 6) (nol_cons (by decide +kernel) (nol_cons (by decide +kernel) (nol_cons (by decide +kernel) (nol_cons (by decide +kernel) (nol_cons (meetB_e (decide_eq_false fun z => by
    have z2 : (3 : Int) + m ≤ 2 := z.2
    omega)) (nol_cons (by decide +kernel) nol_nil))))))⟩
  have k3 := n2.trans n3
  clear o2 b2
  refine asg_cat (S := []) (Γ := [(V.ref p3, .lst ds3)]) (ds := ds3) (mk_var rfl List.mem_cons_self) (by repeat' (first | exact mks_nil | apply mks_cons | exact mk_non | exact mk_bl | exact mk_int | exact mk_str | exact mk_neg | exact mk_dct | exact mk_varI rfl | exact mk_var rfl List.mem_cons_self | exact mk_var rfl (List.mem_cons_of_mem _ List.mem_cons_self) | exact mk_var rfl (List.mem_cons_of_mem _ (List.mem_cons_of_mem _ List.mem_cons_self)) | apply mk_tup | apply mk_lst | apply mk_add | apply mk_sub | apply mk_rep | apply mk_list | apply mk_take | apply mk_catT | apply mk_cat | exact Nat.le_of_ble_eq_true rfl | exact List.cons_ne_nil _ _)) (Nat.le_trans (Nat.add_le_add_right b3.1 _) (by exact Nat.le_of_ble_eq_true rfl)) (gam1 o3.at.w0) noS fun p4 H4 n4 np4 o4 => ?_
  have h8 : riseB (-1) [.int 0, .int (8 + m)] = false := by
    show (decide ((-1 : Int) + 1 ≤ 0 ∧ (0 : Int) ≤ 7) && (decide ((0 : Int) + 1 ≤ 8 + m ∧ 8 + m ≤ 7) && true)) = false
    rw [decide_eq_false (p := (0 : Int) + 1 ≤ 8 + m ∧ 8 + m ≤ 7) (by omega), Bool.false_and, Bool.and_false]
  obtain ⟨ds4, o4, b4⟩ : ∃ ds, Own1 [] H4 p4 ds ∧ Nol meetB 30 ds := ⟨_, o4, b3.app (m := 4) (nol_cons (by decide +kernel) (nol_cons (by decide +kernel) (nol_cons (meetB_p h8) (nol_cons (by decide +kernel) nol_nil))))⟩
  clear o3 b3
  refine asg_cat (S := []) (Γ := [(V.ref p4, .lst ds4)]) (ds := ds4) (mk_var rfl List.mem_cons_self) (by repeat' (first | exact mks_nil | apply mks_cons | exact mk_non | exact mk_bl | exact mk_int | exact mk_str | exact mk_neg | exact mk_dct | exact mk_varI rfl | exact mk_var rfl List.mem_cons_self | exact mk_var rfl (List.mem_cons_of_mem _ List.mem_cons_self) | exact mk_var rfl (List.mem_cons_of_mem _ (List.mem_cons_of_mem _ List.mem_cons_self)) | apply mk_tup | apply mk_lst | apply mk_add | apply mk_sub | apply mk_rep | apply mk_list | apply mk_take | apply mk_catT | apply mk_cat | exact Nat.le_of_ble_eq_true rfl | exact List.cons_ne_nil _ _)) (Nat.le_trans (Nat.add_le_add_right b4.1 _) (by exact Nat.le_of_ble_eq_true rfl)) (gam1 o4.at.w0) noS fun p5 H5 n5 np5 o5 => ?_
  have g5 : Gr meetB H H5 p5 32 := ⟨(k3.trans n4).trans n5, (k3.trans n4).kx.f _ np5, _, o5, b4.app (m := 2) ⟨Nat.le_of_ble_eq_true rfl, all_no (by decide +kernel)⟩⟩
  clear o4 b4 o5
  refine seq_of (for_any (S := [p5]) (ds := numsD m) (fun Q' hq => ⟨_, rfl, [p5], m, rfl, g5.pS, hq⟩) fun r H6 n6 hv => ?_)
  have g6 := g5.nw n6
  have nn := noN_nums m0
  have ln : (numsD m).length = 9 := rfl
  generalize numsD m = nums at hv nn ln
  refine for_gr (m := 5) g6 hv rfl (fun i y d Hx E hd hi gx hy more => ?_) fun v7 H7 g7 => ?_
  · have hdn := nn d hd
    refine seq_of ?_
    refine gx.ext (m := 4) (Γ := [(y, d)]) (es := [.tup [.tup [d], .int 1, .tup []], .tup [.tup [.int 0, d], .int 1, .tup []], .tup [.tup [.int 0, .int 1], d, .tup []], .tup [.tup [.int 0, .int 1], .int 1, .tup [d]]]) rfl ?_ ?_ ?_ (gam1 hy) fun Hy gy sy => ?_
    · repeat' (first | exact mks_nil | apply mks_cons | exact mk_non | exact mk_bl | exact mk_int | exact mk_str | exact mk_neg | exact mk_dct | exact mk_varI rfl | exact mk_var rfl List.mem_cons_self | exact mk_var rfl (List.mem_cons_of_mem _ List.mem_cons_self) | exact mk_var rfl (List.mem_cons_of_mem _ (List.mem_cons_of_mem _ List.mem_cons_self)) | apply mk_tup | apply mk_lst | apply mk_add | apply mk_sub | apply mk_rep | apply mk_list | apply mk_take | apply mk_catT | apply mk_cat | exact Nat.le_of_ble_eq_true rfl | exact List.cons_ne_nil _ _)
    · omega
    · exact nol_cons (meetB_p (noN_rise (ds := []) hdn (by decide))) (nol_cons (meetB_p (noN_rise (ds := [.int 0]) hdn (by decide))) (nol_cons (meetB_e (hdn _ _ (by decide))) (nol_cons (meetB_n (noN_rise (ds := []) hdn (by decide))) nol_nil)))
    dsimp only
    refine gy.app (Γ := [(y, d)]) (d := .tup [.tup [.int 0, .int 1, .int 2, d], .int 1, .tup [.int 0]]) rfl ?_ ?_ ?_ (gam1 (hy.mono sy)) fun Hz gz sz => ?_
    · repeat' (first | exact mks_nil | apply mks_cons | exact mk_non | exact mk_bl | exact mk_int | exact mk_str | exact mk_neg | exact mk_dct | exact mk_varI rfl | exact mk_var rfl List.mem_cons_self | exact mk_var rfl (List.mem_cons_of_mem _ List.mem_cons_self) | exact mk_var rfl (List.mem_cons_of_mem _ (List.mem_cons_of_mem _ List.mem_cons_self)) | apply mk_tup | apply mk_lst | apply mk_add | apply mk_sub | apply mk_rep | apply mk_list | apply mk_take | apply mk_catT | apply mk_cat | exact Nat.le_of_ble_eq_true rfl | exact List.cons_ne_nil _ _)
    · omega
    · exact meetB_p (noN_rise (ds := [.int 0, .int 1, .int 2]) hdn (by decide))
    · exact more Hz gz fun b u e x => sz b u (sy b u e x) x
  rw [ln] at g7
  obtain ⟨ds7, o7, b7⟩ := g7.o
  exact ⟨_, rfl, q _ H7 _ g7.k o7.at (Nat.le_trans b7.1 (by decide)) b7.2⟩
end
end CH
end

section
set_option Elab.async false
set_option linter.all false
set_option maxRecDepth 100000
set_option maxHeartbeats 4000000
namespace CH
open PySem PySem.Spec PyProof.Rows L2
open GxR (TabB TabG Tabbed)
section
variable {P : Program} {w : World} {K : PySem.W.Frag} {mg : Str → Option Value} {base : Heap} {c aA cc cm : Addr}
abbrev st_answers_that_count : Stmt := top 43
abbrev nm_answers_that_count : List Str := ["words", "answers", "word", "person", "hour", "answer"]
theorem sc_answers_that_count : FnScope nm_answers_that_count ["words"] (defScope st_answers_that_count) := C8.fnScope_by (by decide +kernel)
def sp_answers_that_count (K : PySem.W.Frag) : Sp := fun vs H Q _ => ∃ (l : Addr) (ts : List Addr) (ws : List Wd), vs = [.ref l] ∧ SqL K H l (ts.map V.ref) ∧ TAt H ts ws ∧ ws.length ≤ 200 ∧ Alike ws ∧
  ∀ (H' : Hp) (d : Addr) (kvs : List (List Key × V)), Kx H H' → H d = none → H' d = some (.dT kvs) → AnsD kvs (ansW ws) → Q (.ref d) H'
theorem ok_answers_that_count (D : DefT K mg "answers_that_count" st_answers_that_count c) (T : Tx K mg aA) : C8.Cal P w K mg base 1 "answers_that_count" (sp_answers_that_count K) [] := by
  refine cal_of D sc_answers_that_count (fun _ _ _ _ _ _ us hl => match us, hl with | [_], _ => rfl) (fun vs H Q E h => ?_) (fun f A outer s H vs Q E hr h => ?_)
  · obtain ⟨l, ts, us, rfl, _⟩ := h
    rfl
  · obtain ⟨l, ts, ws, rfl, hl, hw, h200, hal, q⟩ := h
    have nd := sc_answers_that_count.nd
    have hu := hu_of hr
    refine ⟨_, (pss_cons (ps_set (i := 1) nd rfl (Or.inl rfl) pe_dnewT)
      (pss_cons (ps_for PassesOwn.never rfl (pi_list (pe_callB cr_sortedWd (by rfl) T.z_sorted (by decide +kernel) (pa_cons (pv 0) pa_nil))) (pg_name (i := 2) nd rfl (Or.inl rfl)) (pss_cons (ps_asg (pe_slice sl_tup (pv 2) (po_some pe_int) po_none) (pg_tup (by rfl) (pgs_cons (pg_name (i := 3) nd rfl (Or.inl rfl)) (pgs_cons (pg_name (i := 4) nd rfl (Or.inl rfl)) (pgs_cons (pg_name (i := 5) nd rfl (Or.inl rfl)) pgs_nil)))))
      (pss_one (ps_dput hu (pv 1) (pe_tup (pa_cons (pv 3) (pa_cons (pv 4) pa_nil))) (pv 5) rfl))))
      (pss_one (ps_ret (pv 1))))), ?_⟩
    intro d nd0
    have k0 : Kx H (upd H d (.dT [])) := Kx.new nd0
    obtain ⟨qs, eq1, eq2, hqs⟩ := tat_qs (hw.k k0)
    refine ⟨_, rfl, l, ts, wkOf (upd H d (.dT [])), 4, rfl, k0.l hl, by decide, fun t ht => ?_, fun ts' r hperm hsort nr => ?_⟩
    · obtain ⟨q0, hq0, rfl⟩ := List.mem_map.mp (eq1 ▸ ht)
      have e := wkOf_eq (hqs q0 hq0)
      rw [e]
      exact ⟨st_of (hqs q0 hq0), rfl⟩
    obtain ⟨us, hus, hpm, hso⟩ := srt_of hqs (eq1.symm ▸ hperm) hsort
    rw [eq2] at hpm
    have k1 : Kx (upd H d (.dT [])) (upd (upd H d (.dT [])) r (.lst (ts'.map V.ref))) := Kx.new nr
    have hr1 : (upd (upd H d (.dT [])) r (.lst (ts'.map V.ref))) r = some (.lst (ts'.map V.ref)) := upd_same
    have hd1 := k1.dt (show (upd H d (.dT [])) d = some (.dT []) from upd_same)
    have hw1 := hus.k k1
    generalize upd (upd H d (.dT [])) r (.lst (ts'.map V.ref)) = H1 at k1 hr1 hd1 hw1 ⊢
    have k01 := k0.trans k1
    have len := paired_len hw1
    have lus : us.length ≤ 200 := by
      rw [hpm.length_eq]
      exact h200
    refine ⟨r, rfl, ⟨_, sq_of hr1⟩, for_list (K := K) (a := r) (xs := ts'.map V.ref) (fun i σ H2 => ∃ (kvs : List (List Key × V)) (v2 v3 v4 v5 : Option V), σ = [some (.ref l), some (.ref d), v2, v3, v4, v5] ∧ Kx H H2 ∧ H2 r = some (.lst (ts'.map V.ref)) ∧ TAt H2 ts' us ∧
        H2 d = some (.dT kvs) ∧ AnsD kvs (lastA (us.take i)) ∧ kvs.length ≤ i)
      ⟨[], none, none, none, none, rfl, k01, hr1, hw1, hd1, fun p o => rfl, Nat.le_refl _⟩ (fun i σ H2 _ ⟨_, _, _, _, _, _, _, hr2, _⟩ => sq_of hr2) ?_ ?_⟩
    · rintro i y σ H2 hi ⟨kvs, v2, v3, v4, v5, rfl, k2, hr2, hw2, hd2, ha2, hlk⟩
      obtain ⟨t, ht, rfl⟩ : ∃ t, ts'[i]? = some t ∧ V.ref t = y := by
        rw [List.getElem?_map] at hi
        exact Option.map_eq_some_iff.mp hi
      obtain ⟨x, hx, hs2⟩ := paired_at hw2 ht
      have hi2 : i < ts'.length := (List.getElem?_eq_some_iff.mp ht).1
      have e1 : us.take (i + 1) = us.take i ++ [x] := by rw [List.take_add_one, hx] <;> rfl
      refine ⟨_, rfl, 2, rfl, t, _, rfl, st_of hs2, not_whole2b x, fun p np => ?_⟩
      have k3 : Kx H2 (upd H2 p (.tup (cutV x.V (some 2) none))) := Kx.new np
      refine ⟨p, _, rfl, st_of upd_same, by rw [cut2b] <;> rfl, ?_⟩
      rw [cut2b]
      refine ⟨_, _, rfl, _, _, rfl, _, _, rfl, rfl, ?_⟩
      refine ⟨_, rfl, _, rfl, _, rfl, _, rfl, (by show 2 ≤ sizeLine; decide), fun k nk => ?_⟩
      have k4 : Kx (upd H2 p (.tup [.int x.p, .int x.o, .str x.a])) (upd (upd H2 p (.tup [.int x.p, .int x.o, .str x.a])) k (.tup [.int x.p, .int x.o])) := Kx.new nk
      rw [cut2b] at k3
      refine ⟨d, _, rfl, DPut.t (k := kPO x.p x.o) ((k3.trans k4).dt hd2) upd_same (lt80 (by omega)), ?_⟩
      have hd4 := (k3.trans k4).dt hd2
      refine ⟨putK kvs (kPO x.p x.o) (.str x.a), _, _, _, _, rfl, (k2.trans (k3.trans k4)).mut nd0, ?_, ((hw2.k k3).k k4).up hd4 (fun _ z => nomatch z), upd_same, fun p' o' => ?_, ?_⟩
      · have hr4 := (k3.trans k4).lst hr2
        rw [upd_ne (fun z => by rw [z, hd4] at hr4; cases hr4)]
        exact hr4
      · rw [valV_put, e1, lastA_snoc]
        by_cases e : x.p = p' ∧ x.o = o'
        · rw [if_pos e, if_pos (kPO_inj.mpr ⟨e.1.symm, e.2.symm⟩)]
          rfl
        · rw [if_neg e, if_neg (fun z => e ⟨(kPO_inj.mp z).1.symm, (kPO_inj.mp z).2.symm⟩)]
          exact ha2 p' o'
      · have := length_putK kvs (kPO x.p x.o) (.str x.a)
        omega
    · rintro σ H2 ⟨kvs, v2, v3, v4, v5, rfl, k2, hr2, hw2, hd2, ha2, hlk⟩
      rw [List.length_map, len, List.take_length] at ha2
      exact ⟨_, rfl, q H2 d kvs k2 nd0 hd2 fun p o => by rw [ha2 p o, lastA_srt hal hpm hso]⟩
abbrev st_answer_of : Stmt := top 44
abbrev nm_answer_of : List Str := ["person", "hour", "answers"]
theorem sc_answer_of : FnScope nm_answer_of ["person", "hour", "answers"] (defScope st_answer_of) := C8.fnScope_by (by decide +kernel)
def sp_answer_of : Sp := fun vs H Q _ => ∃ (d : Addr) (p o : Int) (kvs : List (List Key × V)) (f : Int → Int → Option Str), vs = [.int p, .int o, .ref d] ∧ H d = some (.dT kvs) ∧ AnsD kvs f ∧ ∀ H', Kx H H' → Q (.str ((f p o).getD "no")) H'
theorem ok_answer_of (D : DefT K mg "answer_of" st_answer_of c) : C8.Cal P w K mg base 1 "answer_of" sp_answer_of [] := by
  refine cal_of D sc_answer_of (fun _ _ _ _ _ _ us hl => match us, hl with | [_, _, _], _ => rfl) (fun vs H Q E h => ?_) (fun fa A outer s H vs Q E hr h => ?_)
  · obtain ⟨d, p, o, kvs, f, rfl, _⟩ := h
    rfl
  · obtain ⟨d, p, o, kvs, f, rfl, hd, hf, q⟩ := h
    have nd := sc_answer_of.nd
    have hu := hu_of hr
    refine ⟨_, (pss_one (ps_ret (pe_dget2 hu (pv 2) (pe_tup (pa_cons (pv 0) (pa_cons (pv 1) pa_nil))) pe_str ⟨rfl, rfl, rfl, rfl⟩))), ?_⟩
    refine ⟨_, rfl, d, rfl, .inr ⟨_, .inl hd⟩, _, rfl, _, rfl, (by show 2 ≤ sizeLine; decide), fun k nk => ?_⟩
    have k3 : Kx H (upd H k (.tup [.int p, .int o])) := Kx.new nk
    refine ⟨_, DGet.t (k := kPO p o) (k3.dt hd) upd_same, ?_⟩
    rw [hf p o]
    have e2 : ((f p o).map V.str).getD (.str "no") = .str ((f p o).getD "no") := by cases f p o <;> rfl
    rw [e2]
    exact q _ k3
abbrev st_can_be : Stmt := top 45
abbrev nm_can_be : List Str := ["meeting", "hour", "answers", "coming", "people", "enough", "needed", "ready", "person"]
theorem sc_can_be : FnScope nm_can_be ["meeting", "hour", "answers", "coming"] (defScope st_can_be) := C8.fnScope_by (by decide +kernel)
def sp_can_be (K : PySem.W.Frag) (cc : Addr) : Sp := fun vs H Q _ => ∃ (a d g : Addr) (m : Mt) (o : Int) (kvs : List (List Key × V)) (f : Int → Int → Option Str) (cs : List Str), vs = [.ref a, .int o, .ref d, .ref g] ∧ MAt K H a m ∧ m.ps.length ≤ 8 ∧ H d = some (.dT kvs) ∧ AnsD kvs f ∧
  SqT K H g (cs.map V.str) ∧ TabG H cc ∧ ∀ H', Kx H H' → Q (.bl (canB m cs fun x => (f x o).getD "no")) H'
theorem ok_can_be (D : DefT K mg "can_be" st_can_be c) (TB : TabB base mg c cc) (T : Tx K mg aA) (f_answer_of : C8.Cal P w K mg base 1 "answer_of" sp_answer_of []) : C8.Cal P w K mg base 2 "can_be" (sp_can_be K cc) [] := by
  refine cal_of D sc_can_be (fun _ _ _ _ _ _ us hl => match us, hl with | [_, _, _, _], _ => rfl) (fun vs H Q E h => ?_) (fun f A outer s H vs Q E hr h => ?_)
  · obtain ⟨a, d, g, m, o, kvs, f, cs, rfl, _⟩ := h
    rfl
  · obtain ⟨a, d, g, m, o, kvs, f, cs, rfl, ⟨p, n, ha, hp, hn⟩, h8, hd, hf, hg, tg, q⟩ := h
    have nd := sc_can_be.nd
    have hu := hu_of hr
    have hcode : (cxOf CX0 P w K mg base nm_can_be "can_be" (defScope st_can_be) ‹Addr› (.ref c) A outer s H E).nox.env.code = .ref c := rfl
    refine ⟨_, (pss_cons (ps_asg (pv 0) (pg_tup (by rfl) (pgs_cons (pg_name (i := 4) nd rfl (Or.inl rfl)) (pgs_cons (pg_name (i := 5) nd rfl (Or.inl rfl)) (pgs_cons (pg_name (i := 6) nd rfl (Or.inl rfl)) pgs_nil)))))
      (pss_cons (ps_set (i := 7) nd rfl (Or.inr rfl) (pe_lc (own := [("person", 8)]) (g := gName 8) (by rfl) nd (pi_tup (pv 4)) (blkOk_by (own := [("person", 8)]) (N := nm_can_be) (sc := defScope st_can_be) (by decide +kernel)) (fun _ _ _ _ _ => pg_name (i := 8) nd rfl (Or.inl rfl)) (fun _ _ _ _ _ => pts_one (pt_cmpR (show OpR _ (compareOp .In) (rIn K false) from op_in_seq) (C8.pe_c f_answer_of hr (by first | decide | exact hkp) (by rfl) (pa_cons (pv 8) (pa_cons (pv 1) (pa_cons (pv 2) pa_nil)))) (pv 3) (by rfl))) (fun _ _ _ _ _ => (pv 8))))
      (pss_one (ps_ret (pe_and (pe_cmpR op_ge (pe_callB call_len_seq (by rfl) T.z_len PySem.boot_len (pa_cons (pv 7) pa_nil)) (pv 5) (nomark _)) (pe_one (pe_allG hr (by rfl) T.z_all (by decide +kernel) TB hcode (gnS_by (sc := defScope st_can_be) (by decide +kernel)) (pv 6) (elt_in (y := "ready") (j := 7) (gnS_by (sc := defScope st_can_be) (by decide +kernel)) rfl (by decide +kernel) (show (defScope st_can_be).names.lookup ("ready" : Str) = some .cell by decide +kernel)) (fun _ => rfl)))))))), ?_⟩
    refine ⟨_, rfl, a, _, rfl, ha, rfl, _, _, rfl, _, _, rfl, _, _, rfl, rfl, ?_⟩
    -- ready
    refine ⟨_, rfl, p, rfl, ⟨_, hp⟩, fun D nD => ?_⟩
    have k0 : Kx H (upd H D (.lst [])) := Kx.new nD
    refine lc_tup (K := K) (a := p) (xs := m.ps.map V.int) (fun i H2 => Kx H H2 ∧ H2 D = some (.lst ((comeL (m.ps.take i) cs fun x => (f x o).getD "no").map V.int)))
      ⟨k0, upd_same⟩ (fun i H2 _ h => h.1.t hp) ?_ ?_
    · rintro i y H2 hi ⟨k2, hD2⟩
      obtain ⟨x, hx, rfl⟩ : ∃ x, m.ps[i]? = some x ∧ V.int x = y := by
        rw [List.getElem?_map] at hi
        exact Option.map_eq_some_iff.mp hi
      have e1 : m.ps.take (i + 1) = m.ps.take i ++ [x] := by rw [List.take_add_one, hx] <;> rfl
      refine ⟨rfl, _, rfl, _, rfl, _, rfl, d, x, o, kvs, f, rfl, k2.dt hd, hf, fun H3 k3 => ?_⟩
      refine ⟨_, rfl, g, _, rfl, .inr ((k2.trans k3).t hg), rfl, flat_str _, _, rfl, ?_⟩
      rw [if_neg Bool.false_ne_true, inV_str]
      have e3 : (comeL (m.ps.take (i + 1)) cs fun x => (f x o).getD "no") = (comeL (m.ps.take i) cs fun x => (f x o).getD "no") ++ (if decide ((f x o).getD "no" ∈ cs) = true then [x] else []) := by
        rw [e1]
        unfold comeL
        rw [List.filter_append]
        congr 1
        by_cases z : (f x o).getD "no" ∈ cs
        · rw [List.filter_cons_of_pos (by simpa using z), decide_eq_true z] <;> rfl
        · rw [List.filter_cons_of_neg (by simpa using z), decide_eq_false z] <;> rfl
      have hD3 := k3.lst hD2
      refine iteB (fun z => ?_) (fun z => ?_)
      · refine ⟨_, rfl, _, hD3, ?_, (k2.trans k3).mut nD, ?_⟩
        · rw [List.length_map]
          refine lt80 (Nat.lt_of_le_of_lt (List.length_filter_le _ _) ?_)
          rw [List.length_take]
          omega
        · rw [upd_same, e3, if_pos z, List.map_append] <;> rfl
      · refine ⟨k2.trans k3, ?_⟩
        rw [e3, z, if_neg Bool.false_ne_true, List.append_nil]
        exact hD3
    · rintro H2 ⟨k2, hD2⟩
      rw [List.length_map, List.take_length] at hD2
      generalize hL : (comeL m.ps cs fun x => (f x o).getD "no") = L at hD2
      have hq : ∀ H', Kx H H' → Q (.bl (decide (m.e ≤ (L.length : Int)) && m.nds.all fun x => decide (x ∈ L))) H' := fun H' k => by
        have z := q H' k
        unfold canB at z
        rw [hL] at z
        exact z
      refine ⟨_, rfl, D, _, rfl, .inl (sq_of hD2), _, rfl, _, _, rfl, rfl, _, rfl, ?_⟩
      rw [List.length_map]
      refine iteB (fun z => ?_) (fun z => ?_)
      · have z' : m.e ≤ (L.length : Int) := of_decide_eq_true z
        refine ⟨_, rfl, k2.g _ tg, n, _, _, rfl, .inr (k2.t hn), ⟨D, _, rfl, .inl (sq_of hD2), flat_int _, flat_int _, rfl⟩, by rw [List.length_map], fun H3 tb => ?_⟩
        have e : ((List.map (fun x => inV x (List.map V.int L)) (List.map V.int m.nds)).all id) = m.nds.all fun x => decide (x ∈ L) := by
          rw [List.map_map, List.all_map]
          congr 1
          funext x
          exact inV_int L
        show Q (.bl ((List.map (fun x => inV x (List.map V.int L)) (List.map V.int m.nds)).all id)) H3
        rw [e]
        have hq2 := hq H3 (k2.trans (Kx.tab (k2.g _ tg) tb))
        rw [decide_eq_true z', Bool.true_and] at hq2
        exact hq2
      · have z' : ¬ m.e ≤ (L.length : Int) := of_decide_eq_false z
        have hq2 := hq H2 k2
        rw [decide_eq_false z', Bool.false_and] at hq2
        exact hq2
end
end CH
end

section
set_option Elab.async false
set_option linter.all false
set_option maxRecDepth 100000
set_option maxHeartbeats 4000000
namespace CH
open PySem PySem.Spec PyProof.Rows L2
open GxR (TabB TabG Tabbed)
section
variable {P : Program} {w : World} {K : PySem.W.Frag} {mg : Str → Option Value} {base : Heap} {c aA cc cm : Addr}
abbrev st_hours_of : Stmt := top 46
abbrev nm_hours_of : List Str := ["meeting", "answers", "coming", "hour"]
theorem sc_hours_of : FnScope nm_hours_of ["meeting", "answers", "coming"] (defScope st_hours_of) := C8.fnScope_by (by decide +kernel)
def sp_hours_of (K : PySem.W.Frag) (cc : Addr) : Sp := fun vs H Q _ => ∃ (a d g : Addr) (m : Mt) (kvs : List (List Key × V)) (f : Int → Int → Option Str) (cs : List Str), vs = [.ref a, .ref d, .ref g] ∧ MAt K H a m ∧ m.ps.length ≤ 8 ∧ H d = some (.dT kvs) ∧ AnsD kvs f ∧
  SqT K H g (cs.map V.str) ∧ TabG H cc ∧ ∀ (H' : Hp) (r : Addr), Kx H H' → H r = none → H' r = some (.lst ((hoursL m cs fun x o => (f x o).getD "no").map V.int)) → Q (.ref r) H'
theorem body_hours_of (T : Tx K mg aA) (f_can_be : C8.Cal P w K mg base 2 "can_be" (sp_can_be K cc) []) : Bodies0 P w K mg base nm_hours_of "hours_of" st_hours_of c 2 (sp_hours_of K cc) := by
  intro fa A outer s H vs Q E hr h
  obtain ⟨a, d, g, m, kvs, f, cs, rfl, hm, h8, hd, hf, hg, tc, q⟩ := h
  have nd := sc_hours_of.nd
  refine ⟨_, (pss_one (ps_ret (pe_lc (own := [("hour", 3)]) (g := gName 3) (by rfl) nd (pi_range1 (by rfl) T.z_range (pa_cons (C8.pe_gc (by rfl) T.c_HOURS) pa_nil)) (blkOk_by (own := [("hour", 3)]) (N := nm_hours_of) (sc := defScope st_hours_of) (by decide +kernel)) (fun _ _ _ _ _ => pg_name (i := 3) nd rfl (Or.inl rfl)) (fun _ _ _ _ _ => pts_one (pt_val (C8.pe_c f_can_be hr (by first | decide | exact hkp) (by rfl) (pa_cons (pv 0) (pa_cons (pv 3) (pa_cons (pv 1) (pa_cons (pv 2) pa_nil))))))) (fun _ _ _ _ _ => (pv 3))))), ?_⟩
  refine ⟨12, rfl, by decide, by decide, fun D0 nD => ?_⟩
  have k4 : Kx H (upd H D0 (.lst [])) := Kx.new nD
  refine lc_range (lo := 0) (n := 12) (fun i H4 => Kx H H4 ∧ H4 D0 = some (.lst (((((List.range 12).take i).filter fun o => canB m cs fun x => (f x (Int.ofNat o)).getD "no").map Int.ofNat).map V.int)))
    ⟨k4, upd_same⟩ ?_ ?_
  · rintro i H4 hi ⟨k5, hD⟩
    refine ⟨rfl, _, rfl, _, rfl, _, rfl, _, rfl, a, d, g, m, 0 + (i : Int), kvs, f, cs, rfl, hm.k k5, h8, k5.dt hd, hf, k5.t hg, k5.g _ tc, fun H5 k6 => ⟨_, rfl, ?_⟩⟩
    rw [show (0 : Int) + (i : Int) = Int.ofNat i from Int.zero_add _]
    have hD5 := k6.lst hD
    have e1 := range_take (n := 12) hi
    refine iteB (fun z => ?_) (fun z => ?_)
    · refine ⟨_, rfl, _, hD5, ?_, (k5.trans k6).mut nD, ?_⟩
      · rw [List.length_map, List.length_map]
        refine lt80 (Nat.lt_of_le_of_lt (List.length_filter_le _ _) ?_)
        rw [List.length_take]
        omega
      · rw [upd_same, e1, filter_snoc, if_pos (by exact z), List.map_append, List.map_append] <;> rfl
    · refine ⟨k5.trans k6, ?_⟩
      have z' : ¬ ((canB m cs fun x => (f x (Int.ofNat i)).getD "no") = true) := by
        have z2 : (canB m cs fun x => (f x (Int.ofNat i)).getD "no") = false := z
        rw [z2]
        decide
      rw [e1, filter_snoc, if_neg (by exact z'), List.append_nil]
      exact hD5
  · rintro H4 ⟨k5, hD⟩
    exact q H4 D0 k5 nD hD
theorem len_hours_of {vs : List V} {H : Hp} {Q : VK} {E : XK} (h : sp_hours_of K cc vs H Q E) : vs.length = 3 := by
  obtain ⟨a, d, g, m, kvs, f, cs, rfl, _⟩ := h
  rfl
/-- all three are written -/
theorem ok_hours_of3 {v : V} (D : DefQ K mg "hours_of" st_hours_of [v] c) (T : Tx K mg aA) (f_can_be : C8.Cal P w K mg base 2 "can_be" (sp_can_be K cc) []) : C8.Cal P w K mg base 3 "hours_of" (sp_hours_of K cc) [] :=
  calQ_of (n := 3) (j := 1) D sc_hours_of (List.cons_ne_nil _ _) rfl (fun _ _ _ _ _ _ _ us its h1 h2 => match us, its, h1, h2 with | [_, _, _], [_], _, _ => ⟨_, rfl, rfl⟩) (fun _ _ _ _ h => len_hours_of h) (body_hours_of T f_can_be)
/-- the last one is the default -/
theorem ok_hours_of2 {v : V} (D : DefQ K mg "hours_of" st_hours_of [v] c) (T : Tx K mg aA) (f_can_be : C8.Cal P w K mg base 2 "can_be" (sp_can_be K cc) []) : C8.Cal P w K mg base 3 "hours_of" (sp_hours_of K cc) [v] :=
  calQ_of (n := 2) (j := 0) D sc_hours_of (List.cons_ne_nil _ _) rfl (fun _ _ _ _ _ _ _ us its h1 h2 => match us, its, h1, h2 with | [_, _], [_], _, _ => ⟨_, rfl, rfl⟩) (fun _ _ _ _ h => len_hours_of h) (body_hours_of T f_can_be)
end
end CH
end

section
set_option Elab.async false
set_option linter.all false
set_option maxRecDepth 100000
set_option maxHeartbeats 4000000
namespace CH
open PySem PySem.Spec PyProof.Rows L2
open GxR (TabB TabG Tabbed)
section
variable {P : Program} {w : World} {K : PySem.W.Frag} {mg : Str → Option Value} {base : Heap} {c aA cc cm : Addr}
abbrev st_jump : Stmt := top 59
abbrev nm_jump : List Str := ["hour", "old"]
theorem sc_jump : FnScope nm_jump ["hour", "old"] (defScope st_jump) := C8.fnScope_by (by decide +kernel)
def sp_jump : Sp := fun vs H Q _ => ∃ (h : Int) (x : Option Int), vs = [.int h, oldV x] ∧ Q (.int (jumpZ x h)) H
theorem ok_jump (D : DefT K mg "jump" st_jump c) (T : Tx K mg aA) : C8.Cal P w K mg base 1 "jump" sp_jump [] := by
  refine cal_of D sc_jump (fun _ _ _ _ _ _ us hl => match us, hl with | [_, _], _ => rfl) (fun vs H Q E h => ?_) (fun fa A outer s H vs Q E hr h => ?_)
  · obtain ⟨h, x, rfl, _⟩ := h
    rfl
  · obtain ⟨h, x, rfl, q⟩ := h
    have nd := sc_jump.nd
    refine ⟨_, (pss_one (ps_ret (pe_ifExp (pt_cmp (pc_isN (pv 1))) pe_int (pe_callB call_abs (by rfl) T.z_abs (by decide +kernel) (pa_cons (pe_op op_sub (pv 0) (pv 1)) pa_nil))))), ?_⟩
    cases x with
    | none => exact ⟨_, rfl, _, rfl, iteT q⟩
    | some i => exact ⟨_, rfl, _, rfl, iteF ⟨_, rfl, _, rfl, _, _, rfl, rfl, _, rfl, q⟩⟩
abbrev st_jumps_of : Stmt := top 60
abbrev nm_jumps_of : List Str := ["words", "meetings", "olds", "answers", "hour", "meeting", "old"]
theorem sc_jumps_of : FnScope nm_jumps_of ["words", "meetings", "olds"] (defScope st_jumps_of) := C8.fnScope_by (by decide +kernel)
/-- for each meeting hours and its old one -/
def jrows (ms : List Mt) (olds : List (Option Int)) (ws : List Wd) : List (List Int × Option Int) := (ms.zip olds).map fun p => (hoursL p.1 ["yes"] (ansF ws), p.2)
def sp_jumps_of (K : PySem.W.Frag) (cc : Addr) : Sp := fun vs H Q _ => ∃ (l a o : Addr) (tsw : List Addr) (us ws : List Wd) (ms : List Mt) (olds : List (Option Int)), vs = [.ref l, .ref a, .ref o] ∧ SqL K H l (tsw.map V.ref) ∧ TAt H tsw us ∧ us.length ≤ 200 ∧ Alike us ∧ ansW us = ansW ws ∧ MsAt K H a ms ∧ (∀ m ∈ ms, m.ok) ∧ ms.length ≤ 1000 ∧ SqL K H o (olds.map oldV) ∧ olds.length = ms.length ∧ TabG H cc ∧
  ∀ (H' : Hp) (r : Addr) (ds : List Addr), Kx H H' → H r = none → H' r = some (.lst (ds.map V.ref)) → JsAt H' ds (jrows ms olds ws) → ds.Nodup → (∀ d ∈ ds, H d = none) → Q (.ref r) H'
theorem ok_jumps_of (D : DefT K mg "jumps_of" st_jumps_of c) (T : Tx K mg aA) {aY : Addr} (hY : ∀ H, SqT K H aY ((["yes"] : List Str).map V.str)) (f_jump : C8.Cal P w K mg base 1 "jump" sp_jump []) (f_answers_that_count : C8.Cal P w K mg base 1 "answers_that_count" (sp_answers_that_count K) []) (f_hours_of : C8.Cal P w K mg base 3 "hours_of" (sp_hours_of K cc) [.ref aY]) : C8.Cal P w K mg base 4 "jumps_of" (sp_jumps_of K cc) [] := by
  refine cal_of D sc_jumps_of (fun _ _ _ _ _ _ us hl => match us, hl with | [_, _, _], _ => rfl) (fun vs H Q E h => ?_) (fun fa A outer s H vs Q E hr h => ?_)
  · obtain ⟨l, a, o, tsw, us, ws, ms, olds, rfl, _⟩ := h
    rfl
  · obtain ⟨l, a, o, tsw, us, ws, ms, olds, rfl, hl, hw, h200, al, eaw, hms, mok, lms, ho, lo, tc, q⟩ := h
    have nd := sc_jumps_of.nd
    refine ⟨_, (pss_cons (ps_set (i := 3) nd rfl (Or.inr rfl) (C8.pe_c f_answers_that_count hr (by first | decide | exact hkp) (by rfl) (pa_cons (pv 0) pa_nil)))
      (pss_one (ps_ret (pe_lc (own := [("meeting", 5), ("old", 6)]) (g := (gTup K 2 (gCons (gName 5) (gCons (gName 6) gNil)))) (tt := tYes) (by rfl) nd (pi_zip (by rfl) T.z_zip (pa_cons (pv 1) (pa_cons (pv 2) pa_nil))) (blkOk_by (own := [("meeting", 5), ("old", 6)]) (N := nm_jumps_of) (sc := defScope st_jumps_of) (by decide +kernel)) (fun _ _ _ _ _ => (show PG _ _ (gTup K 2 (gCons (gName 5) (gCons (gName 6) gNil))) from pg_tup (by rfl) (pgs_cons (pg_name (i := 5) nd rfl (Or.inl rfl)) (pgs_cons (pg_name (i := 6) nd rfl (Or.inr rfl)) pgs_nil)))) (fun _ _ _ _ _ => pts_nil) (fun _ _ _ _ _ => (pe_dc (own := [("hour", 4)]) (g := gName 4) (tt := tYes) (by rfl) nd (show PI _ _ _ (iList K _) from pi_list (C8.pe_c f_hours_of hr (by first | decide | exact hkp) (by rfl) (pa_cons (pv 5) (pa_cons (pv 3) pa_nil)))) (blkOk_by (own := [("hour", 4)]) (N := nm_jumps_of) (by kernel_rfl)) (fun _ _ _ _ _ => pg_name (i := 4) nd rfl (Or.inl rfl)) (fun _ _ _ _ _ => pts_nil) (fun _ _ _ _ _ => (pv 4)) (fun _ _ _ _ _ => (C8.pe_c f_jump hr (by first | decide | exact hkp) (by rfl) (pa_cons (pv 4) (pa_cons (pv 6) pa_nil)))))))))), ?_⟩
    refine ⟨_, rfl, l, tsw, us, rfl, hl, hw, h200, al, fun H1 d kvs k1 nd1 hd1 ha1 => ?_⟩
    rw [eaw] at ha1
    obtain ⟨as, hma, hmp⟩ := hms.k k1
    have len := paired_len hmp
    have ho1 := k1.l ho
    have tc1 := k1.g _ tc
    refine ⟨_, rfl, _, rfl, a, o, _, _, rfl, hma, ho1, fun D nD => ?_⟩
    refine lc_zipP (K := K) (fun i H2 => Kx H1 H2 ∧ ∃ ds : List Addr, H2 D = some (.lst (ds.map V.ref)) ∧ JsAt H2 ds ((jrows ms olds ws).take i) ∧ ds.Nodup ∧ (∀ d ∈ ds, H1 d = none ∧ d ≠ D) ∧ ds.length = i)
      (by rw [List.length_map, List.length_map, len, lo]) ⟨Kx.new nD, [], upd_same, .nil, List.nodup_nil, fun d h => absurd h (by simp), rfl⟩ (fun i H2 h => ⟨h.1.l hma, h.1.l ho1⟩) (fun _ _ => rfl) (fun i x y Tp H2 hx hy h nT => ?_) fun H2 h => ?_
    · obtain ⟨k2, ds, hD2, hds, nds, fds, lds⟩ := h
      obtain ⟨am, ham, rfl⟩ : ∃ t, as[i]? = some t ∧ V.ref t = x := by
        rw [List.getElem?_map] at hx
        exact Option.map_eq_some_iff.mp hx
      obtain ⟨old, hold, rfl⟩ : ∃ t, olds[i]? = some t ∧ oldV t = y := by
        rw [List.getElem?_map] at hy
        exact Option.map_eq_some_iff.mp hy
      obtain ⟨m, hm, hmat⟩ := paired_at hmp ham
      have mo := mok m (List.mem_of_getElem? hm)
      have hil : i < as.length := (List.getElem?_eq_some_iff.mp ham).1
      have k3 : Kx H2 (upd H2 Tp (.tup [.ref am, oldV old])) := Kx.new nT
      have hD3 := k3.lst hD2
      have hds3 := hds.k k3
      have k13 := k2.trans k3
      generalize upd H2 Tp (.tup [.ref am, oldV old]) = H3 at k3 hD3 hds3 k13 ⊢
      refine ⟨_, rfl, _, rfl, am, d, aY, m, kvs, ansW ws, ["yes"], rfl, hmat.k k13, rise_len8 mo.p, k13.dt hd1, ha1, hY _, k13.g _ tc1, fun H4 r4 k4 nr4 hr4 => ?_⟩
      rw [show (hoursL m ["yes"] fun x o => (ansW ws x o).getD "no") = hoursL m ["yes"] (ansF ws) from rfl] at hr4
      refine ⟨r4, rfl, ⟨_, sq_of hr4⟩, fun E nE => ?_⟩
      refine dc_ints (K := K) (f := fun h => .int (jumpZ old h)) (sq_of hr4) (hoursL_nodup _ _ _) nE (by have := hoursL_len m ["yes"] (ansF ws); omega) (fun _ => rfl) (fun _ => rfl) (fun h H5 hh k5 Q' hq => ⟨_, rfl, _, rfl, h, old, rfl, hq _ (Kx.refl _)⟩) fun H5 k5 hE5 => ?_
      have k35 := k4.trans k5
      have hD5 := k35.lst hD3
      have nED : E ≠ D := fun z => by rw [z, k4.lst hD3] at nE; cases nE
      have hrow : (jrows ms olds ws)[i]? = some (hoursL m ["yes"] (ansF ws), old) := by
        unfold jrows
        rw [List.getElem?_map, zip_at hm hold] <;> rfl
      refine ⟨_, hD5, by rw [List.length_map]; exact lt80 (by have := paired_len hmp; omega), (k13.trans k35).mut nD, ds ++ [E], by rw [upd_same, List.map_append] <;> rfl, ?_, ?_, fun y hy => ?_, by rw [List.length_append, lds] <;> rfl⟩
      · rw [List.take_add_one, hrow]
        have hds5 := hds3.k k35
        have base : JsAt H5 (ds ++ [E]) ((jrows ms olds ws).take i ++ [(hoursL m ["yes"] (ansF ws), old)]) := paired_snoc hds5 ⟨hE5, hoursL_nodup _ _ _, hoursL_len _ _ _, fun h hh => hoursL_mem hh⟩
        refine paired_imp_mem (fun y hy b z => ⟨?_, z.2⟩) base
        rw [upd_ne]
        · exact z.1
        · rcases List.mem_append.mp hy with hy | hy
          · exact (fds y hy).2
          · rw [List.mem_singleton.mp hy]
            exact nED
      · refine List.nodup_append.mpr ⟨nds, List.nodup_cons.mpr ⟨by simp, List.nodup_nil⟩, fun x hx y hy e => ?_⟩
        rw [List.mem_singleton.mp hy] at e
        subst e
        obtain ⟨j, hj⟩ := List.mem_iff_getElem?.mp hx
        obtain ⟨rr, _, h1, _⟩ := paired_at (hds3.k k4) hj
        rw [nE] at h1
        cases h1
      · rcases List.mem_append.mp hy with hy | hy
        · exact fds y hy
        · rw [List.mem_singleton.mp hy]
          exact ⟨(k13.trans k4).f _ nE, nED⟩
    · obtain ⟨k2, ds, hD2, hds, nds, fds, lds⟩ := h
      have lj : (jrows ms olds ws).length = (as.map V.ref).length := by
        unfold jrows
        rw [List.length_map, List.length_zip, List.length_map, len, lo, Nat.min_self]
      rw [← lj, List.take_length] at hds
      exact q H2 D ds (k1.trans k2) (k1.f _ nD) hD2 hds nds fun d hd => k1.f _ (fds d hd).1
end
end CH
end

section
set_option Elab.async false
set_option linter.all false
set_option maxRecDepth 100000
set_option maxHeartbeats 4000000
namespace CH
open PySem PySem.Spec PyProof.Rows L2
open GxR (TabB TabG Tabbed)
/-- where the parts of seats stand -/
structure Sa where
  s : Addr
  dx : Addr
  J : Addr
  Hh : Addr
  Pp : Addr
  Rr : Addr
  Ho : Addr
  ds : List Addr
def Sa.flds (a : Sa) : List (Str × V) := [("jumps", .ref a.J), ("hours", .ref a.Hh), ("prices", .ref a.Pp), ("rents", .ref a.Rr), ("holders", .ref a.Ho)]
/-- the dict of holders -/
def HoldD (kvs : List (Key × V)) (hf : Int → Option Nat) : Prop := ∀ h : Int, valV kvs (Sum.inl h) = (hf h).map fun (i : Nat) => V.int (i : Int)
structure SeatsAt (cSe : Addr) (H : Hp) (a : Sa) (rows : Rows) (hs : List (Option Int)) (ps rs : List Int) (kvs : List (Key × V)) (hf : Int → Option Nat) : Prop where
  ob : H a.s = some (.ins cSe a.dx a.flds)
  hJ : H a.J = some (.lst (a.ds.map V.ref))
  hd : JsAt H a.ds rows
  hh : H a.Hh = some (.lst (hs.map oldV))
  hp : H a.Pp = some (.lst (ps.map V.int))
  hr : H a.Rr = some (.lst (rs.map V.int))
  ho : H a.Ho = some (.dK kvs)
  hf_ : HoldD kvs hf
  n1 : a.J ≠ a.Hh ∧ a.J ≠ a.Pp ∧ a.J ≠ a.Rr
  n2 : a.Hh ≠ a.Pp ∧ a.Hh ≠ a.Rr ∧ a.Pp ≠ a.Rr
  n3 : a.Ho ∉ a.ds
  nd : a.ds.Nodup
theorem putF_app {f : Str} {v : V} : ∀ {fs : List (Str × V)}, (∀ p ∈ fs, p.1 ≠ f) → putF f v fs = fs ++ [(f, v)]
  | [], _ => rfl
  | (g, u) :: r, h => by
    have e : putF f v ((g, u) :: r) = if g = f then (g, v) :: r else (g, u) :: putF f v r := rfl
    rw [e, if_neg (h (g, u) List.mem_cons_self), putF_app fun p hp => h p (List.mem_cons_of_mem _ hp)]
    rfl
theorem putF_new {f : Str} {v : V} {fs : List (Str × V)} (ks : List Str) (e : fs.map (·.1) = ks) (h : ∀ g ∈ ks, g ≠ f) : putF f v fs = fs ++ [(f, v)] := putF_app fun p hp => h p.1 (e ▸ List.mem_map.mpr ⟨p, hp, rfl⟩)
theorem lc_same {K : PySem.W.Frag} {a : Addr} {xs : List V} {v : V} {s : Nat} {vs : List Nat} {σ : L2.St} {H0 : Hp} {D : Addr} {Qd : Hp → Prop} (hl : SqL K H0 a xs) (nD : H0 D = none) (h4 : xs.length ≤ 4000)
    (hw : ∀ x, wipe ((wipe σ vs).set s (some x)) vs = wipe σ vs) (hd : ∀ H3, Kx H0 H3 → H3 D = some (.lst (List.replicate xs.length v)) → Qd H3) :
    ∃ W : Nat → Nat → Hp → Prop, (∃ m, W 0 m (upd H0 D (.lst []))) ∧ ∀ i1 m H, W i1 m H →
      ((Itl K a).stop i1 H ∧ Qd H) ∨ ((Itl K a).go i1 H ∧ ∃ Nx : Hp → Prop, (∀ H', Nx H' → ∃ m', m' < m ∧ W (i1 + 1) m' H') ∧ ∀ x H', (Itl K a).yld i1 H x H' → gName s x (wipe σ vs) H' fun σ2 H2 => wipe σ2 vs = wipe σ vs ∧ tYes σ2 H2 fun b H3 =>
        if b = true then tC v σ2 H3 fun y H4 => ∃ acc, H4 D = some (.lst acc) ∧ acc.length < sizeLine ∧ Nx (upd H4 D (.lst (acc ++ [y]))) else Nx H3) := by
  refine lc_list (K := K) (a := a) (xs := xs) (fun j H2 => Kx H0 H2 ∧ H2 D = some (.lst (List.replicate j v))) ⟨Kx.new nD, upd_same⟩ (fun j H2 _ h => h.1.l hl) ?_ ?_
  · rintro j y H2 hj ⟨k2, hD⟩
    have hjl := (List.getElem?_eq_some_iff.mp hj).1
    refine ⟨hw _, yesT ⟨_, hD, by rw [List.length_replicate]; exact lt80 (by omega), k2.mut nD, ?_⟩⟩
    rw [upd_same, List.replicate_succ']
  · rintro H2 ⟨k2, hD⟩
    exact hd H2 k2 hD
section
variable {P : Program} {w : World} {K : PySem.W.Frag} {mg : Str → Option Value} {base : Heap} {c aA cc cm cSe : Addr}
abbrev st_Seats_init : Stmt := inClass (top 64) 0
abbrev nm_Seats_init : List Str := ["self", "jumps", "_"]
theorem sc_Seats_init : FnScope nm_Seats_init ["self", "jumps"] (defScope st_Seats_init) := C8.fnScope_by (by decide +kernel)
abbrev st_Seats_gap : Stmt := inClass (top 64) 1
abbrev nm_Seats_gap : List Str := ["self", "meeting", "hour"]
theorem sc_Seats_gap : FnScope nm_Seats_gap ["self", "meeting", "hour"] (defScope st_Seats_gap) := C8.fnScope_by (by decide +kernel)
def sp_Seats_init (cSe : Addr) : Sp := fun vs H Q _ => ∃ (H0 : Hp) (x dx J : Addr) (ds : List Addr) (rows : Rows), vs = [.ref x, .ref J] ∧ H = upd (upd H0 dx (.own x)) x (.ins cSe dx []) ∧ H0 x = none ∧ H0 dx = none ∧ dx ≠ x ∧ H0 J = some (.lst (ds.map V.ref)) ∧ JsAt H0 ds rows ∧ ds.Nodup ∧ rows.length ≤ 1000 ∧
  ∀ (H' : Hp) (a : Sa), Kx H0 H' → a.s = x → a.ds = ds → H0 a.Hh = none → H0 a.Pp = none → H0 a.Rr = none → H0 a.Ho = none → SeatsAt cSe H' a rows (List.replicate rows.length none) (List.replicate rows.length 0) (List.replicate 12 0) [] (fun _ => none) → Q .non H'
theorem ok_Seats_init (D : MakT K mg "Seats" cSe "Seats.__init__" st_Seats_init c) (T : Tx K mg aA) (e_Seats : Own K mg "Seats" cSe) (n1 : NoAttr K cSe "jumps") (n2 : NoAttr K cSe "hours") (n3 : NoAttr K cSe "prices") (n4 : NoAttr K cSe "rents") (n5 : NoAttr K cSe "holders") : C8.Mak P w K mg base 1 "Seats" cSe (sp_Seats_init cSe) [] := by
  refine mak_of D sc_Seats_init (fun _ _ _ _ _ _ us hl => match us, hl with | [_, _], _ => rfl) (fun vs H Q E h => ?_) (fun f A outer s H vs Q E hr h => ?_)
  · obtain ⟨H0, x, dx, J, ds, rows, rfl, _⟩ := h
    rfl
  · obtain ⟨H0, x, dx, J, ds, rows, rfl, rfl, nx, ndx, ndxx, hJ, hds, nd0, l1000, q⟩ := h
    have nd := sc_Seats_init.nd
    refine ⟨_, (pss_cons (ps_fld (pv 0) (pv 1) rfl)
      (pss_cons (ps_fld (pv 0) (pe_lc (own := [("_", 2)]) (g := gName 2) (tt := tYes) (by rfl) nd (pi_list (pv 1)) (blkOk_by (own := [("_", 2)]) (N := nm_Seats_init) (sc := defScope st_Seats_init) (by decide +kernel)) (fun _ _ _ _ _ => pg_name (i := 2) nd rfl (Or.inl rfl)) (fun _ _ _ _ _ => pts_nil) (fun _ _ _ _ _ => pe_non)) rfl)
      (pss_cons (ps_fld (pv 0) (pe_lc (own := [("_", 2)]) (g := gName 2) (tt := tYes) (by rfl) nd (pi_list (pv 1)) (blkOk_by (own := [("_", 2)]) (N := nm_Seats_init) (sc := defScope st_Seats_init) (by decide +kernel)) (fun _ _ _ _ _ => pg_name (i := 2) nd rfl (Or.inl rfl)) (fun _ _ _ _ _ => pts_nil) (fun _ _ _ _ _ => pe_int)) rfl)
      (pss_cons (ps_fld (pv 0) (pe_lc (own := [("_", 2)]) (g := gName 2) (tt := tYes) (by rfl) nd (pi_range1 (by rfl) T.z_range (pa_cons (C8.pe_gc (by rfl) T.c_HOURS) pa_nil)) (blkOk_by (own := [("_", 2)]) (N := nm_Seats_init) (sc := defScope st_Seats_init) (by decide +kernel)) (fun _ _ _ _ _ => pg_name (i := 2) nd rfl (Or.inl rfl)) (fun _ _ _ _ _ => pts_nil) (fun _ _ _ _ _ => pe_int)) rfl)
      (pss_one (ps_fld (pv 0) pe_dnewK rfl)))))), ?_⟩
    have k0 : Kx H0 (upd (upd H0 dx (.own x)) x (.ins cSe dx [])) := (Kx.new ndx).mut nx
    have hx0 : (upd (upd H0 dx (.own x)) x (.ins cSe dx [])) x = some (.ins cSe dx []) := upd_same
    generalize upd (upd H0 dx (.own x)) x (.ins cSe dx []) = H1 at k0 hx0 ⊢
    have nJx : J ≠ x := fun z => by rw [z, nx] at hJ; cases hJ
    -- jumps
    refine ⟨_, rfl, _, rfl, x, cSe, dx, _, rfl, hx0, e_Seats.cl, n1, (by show 0 < 1000; decide), ?_⟩
    rw [putF_app (fs := []) (fun p hp => absurd hp (by simp)), List.nil_append]
    have k1 : Kx H0 (upd H1 x (.ins cSe dx [("jumps", .ref J)])) := k0.mut nx
    have hx1 : (upd H1 x (.ins cSe dx [("jumps", .ref J)])) x = some (.ins cSe dx [("jumps", .ref J)]) := upd_same
    generalize upd H1 x (.ins cSe dx [("jumps", .ref J)]) = H2 at k1 hx1 ⊢
    have len := paired_len hds
    -- hours
    refine ⟨_, rfl, J, rfl, ⟨_, sq_of (k1.lst hJ)⟩, fun D1 nD1 => ?_⟩
    refine lc_same (K := K) (sq_of (k1.lst hJ)) nD1 (by rw [List.length_map, len]; omega) (fun _ => rfl) fun H3 k3 hD1 => ?_
    rw [List.length_map, len] at hD1
    have hx3 := k3.o _ _ hx1 fun ps z => nomatch z
    refine ⟨_, rfl, x, cSe, dx, _, rfl, hx3, e_Seats.cl, n2, (by show 1 < 1000; decide), ?_⟩
    rw [putF_new ["jumps"] rfl (by decide +kernel)]
    have k4 : Kx H0 (upd H3 x (.ins cSe dx [("jumps", .ref J), ("hours", .ref D1)])) := (k1.trans k3).mut nx
    have hx4 : (upd H3 x (.ins cSe dx [("jumps", .ref J), ("hours", .ref D1)])) x = some (.ins cSe dx [("jumps", .ref J), ("hours", .ref D1)]) := upd_same
    have nD1x : D1 ≠ x := fun z => by rw [z, hx3] at hD1; cases hD1
    have hD14 : (upd H3 x (.ins cSe dx [("jumps", .ref J), ("hours", .ref D1)])) D1 = some (.lst (List.replicate rows.length .non)) := by rw [upd_ne nD1x]; exact hD1
    have nD10 := k1.f _ nD1
    rw [show ([("jumps", V.ref J)] : List (Str × V)) ++ ([(("hours" : Str), V.ref D1)] : List (Str × V)) = ([("jumps", .ref J), ("hours", .ref D1)] : List (Str × V)) from rfl]
    generalize upd H3 x (.ins cSe dx [("jumps", .ref J), ("hours", .ref D1)]) = H4 at k4 hx4 hD14 ⊢
    -- prices
    refine ⟨_, rfl, J, rfl, ⟨_, sq_of (k4.lst hJ)⟩, fun D2 nD2 => ?_⟩
    refine lc_same (K := K) (sq_of (k4.lst hJ)) nD2 (by rw [List.length_map, len]; omega) (fun _ => rfl) fun H5 k5 hD2 => ?_
    rw [List.length_map, len] at hD2
    have hx5 := k5.o _ _ hx4 fun ps z => nomatch z
    have hD15 := k5.lst hD14
    have nD21 : D1 ≠ D2 := fun z => by rw [← z, hD14] at nD2; cases nD2
    have nD20 := k4.f _ nD2
    have nD2x : D2 ≠ x := fun z => by rw [z, hx5] at hD2; cases hD2
    refine ⟨_, rfl, x, cSe, dx, _, rfl, hx5, e_Seats.cl, n3, (by show 2 < 1000; decide), ?_⟩
    rw [putF_new ["jumps", "hours"] rfl (by decide +kernel)]
    rw [show ([("jumps", V.ref J), (("hours" : Str), V.ref D1)] : List (Str × V)) ++ ([(("prices" : Str), V.ref D2)] : List (Str × V)) = ([("jumps", .ref J), ("hours", .ref D1), ("prices", .ref D2)] : List (Str × V)) from rfl]
    have k6 : Kx H0 (upd H5 x (.ins cSe dx [("jumps", .ref J), ("hours", .ref D1), ("prices", .ref D2)])) := (k4.trans k5).mut nx
    have hx6 : (upd H5 x (.ins cSe dx [("jumps", .ref J), ("hours", .ref D1), ("prices", .ref D2)])) x = some (.ins cSe dx [("jumps", .ref J), ("hours", .ref D1), ("prices", .ref D2)]) := upd_same
    have hD16 : (upd H5 x (.ins cSe dx [("jumps", .ref J), ("hours", .ref D1), ("prices", .ref D2)])) D1 = some (.lst (List.replicate rows.length .non)) := by rw [upd_ne nD1x]; exact hD15
    have hD26 : (upd H5 x (.ins cSe dx [("jumps", .ref J), ("hours", .ref D1), ("prices", .ref D2)])) D2 = some (.lst (List.replicate rows.length (.int 0))) := by rw [upd_ne nD2x]; exact hD2
    generalize upd H5 x (.ins cSe dx [("jumps", .ref J), ("hours", .ref D1), ("prices", .ref D2)]) = H6 at k6 hx6 hD16 hD26 ⊢
    -- rents
    refine ⟨12, rfl, by decide, by decide, fun D3 nD3 => ?_⟩
    refine lc_range (lo := 0) (n := 12) (fun i H7 => Kx H6 H7 ∧ H7 D3 = some (.lst (List.replicate i (.int 0)))) ⟨Kx.new nD3, upd_same⟩ ?_ ?_
    · rintro i H7 hi ⟨k7, hD⟩
      refine ⟨rfl, ⟨_, hD, by rw [List.length_replicate]; exact lt80 (by omega), k7.mut nD3, ?_⟩⟩
      rw [upd_same, List.replicate_succ']
    rintro H7 ⟨k7, hD3⟩
    have hx7 := k7.o _ _ hx6 fun ps z => nomatch z
    have hD17 := k7.lst hD16
    have hD27 := k7.lst hD26
    have nD31 : D1 ≠ D3 := fun z => by rw [← z, hD16] at nD3; cases nD3
    have nD32 : D2 ≠ D3 := fun z => by rw [← z, hD26] at nD3; cases nD3
    have nD30 := k6.f _ nD3
    have nD3x : D3 ≠ x := fun z => by rw [z, hx7] at hD3; cases hD3
    refine ⟨_, rfl, x, cSe, dx, _, rfl, hx7, e_Seats.cl, n4, (by show 3 < 1000; decide), ?_⟩
    rw [putF_new ["jumps", "hours", "prices"] rfl (by decide +kernel)]
    rw [show ([("jumps", V.ref J), (("hours" : Str), V.ref D1), (("prices" : Str), V.ref D2)] : List (Str × V)) ++ ([(("rents" : Str), V.ref D3)] : List (Str × V)) = ([("jumps", .ref J), ("hours", .ref D1), ("prices", .ref D2), ("rents", .ref D3)] : List (Str × V)) from rfl]
    have k8 : Kx H0 (upd H7 x (.ins cSe dx [("jumps", .ref J), ("hours", .ref D1), ("prices", .ref D2), ("rents", .ref D3)])) := (k6.trans k7).mut nx
    have hx8 : (upd H7 x (.ins cSe dx [("jumps", .ref J), ("hours", .ref D1), ("prices", .ref D2), ("rents", .ref D3)])) x = some (.ins cSe dx [("jumps", .ref J), ("hours", .ref D1), ("prices", .ref D2), ("rents", .ref D3)]) := upd_same
    have hD18 : (upd H7 x (.ins cSe dx [("jumps", .ref J), ("hours", .ref D1), ("prices", .ref D2), ("rents", .ref D3)])) D1 = some (.lst (List.replicate rows.length .non)) := by rw [upd_ne nD1x]; exact hD17
    have hD28 : (upd H7 x (.ins cSe dx [("jumps", .ref J), ("hours", .ref D1), ("prices", .ref D2), ("rents", .ref D3)])) D2 = some (.lst (List.replicate rows.length (.int 0))) := by rw [upd_ne nD2x]; exact hD27
    have hD38 : (upd H7 x (.ins cSe dx [("jumps", .ref J), ("hours", .ref D1), ("prices", .ref D2), ("rents", .ref D3)])) D3 = some (.lst (List.replicate 12 (.int 0))) := by rw [upd_ne nD3x]; exact hD3
    generalize upd H7 x (.ins cSe dx [("jumps", .ref J), ("hours", .ref D1), ("prices", .ref D2), ("rents", .ref D3)]) = H8 at k8 hx8 hD18 hD28 hD38 ⊢
    -- holders
    intro D4 nD4
    have k9 : Kx H8 (upd H8 D4 (.dK [])) := Kx.new nD4
    have hx9 := k9.o _ _ hx8 fun ps z => nomatch z
    have hD19 := k9.lst hD18
    have hD29 := k9.lst hD28
    have hD39 := k9.lst hD38
    have hD49 : (upd H8 D4 (.dK [])) D4 = some (.dK []) := upd_same
    have k09 := k8.trans k9
    have nD40 := k8.f _ nD4
    have nD4x : D4 ≠ x := fun z => by rw [z, hx8] at nD4; cases nD4
    generalize upd H8 D4 (.dK []) = H9 at k09 hx9 hD19 hD29 hD39 hD49 ⊢
    refine ⟨_, rfl, x, cSe, dx, _, rfl, hx9, e_Seats.cl, n5, (by show 4 < 1000; decide), ?_⟩
    rw [putF_new ["jumps", "hours", "prices", "rents"] rfl (by decide +kernel)]
    have k10 := k09.mut (u := .ins cSe dx (Sa.flds ⟨x, dx, J, D1, D2, D3, D4, ds⟩)) nx
    refine q _ ⟨x, dx, J, D1, D2, D3, D4, ds⟩ k10 rfl rfl nD10 nD20 nD30 nD40 ⟨upd_same, k10.lst hJ, hds.k k10, ?_, ?_, ?_, ?_, fun h => rfl, ⟨?_, ?_, ?_⟩, ⟨nD21, nD31, nD32⟩, fun z => ?_, nd0⟩
    · rw [upd_ne nD1x, List.map_replicate]
      exact hD19
    · rw [upd_ne nD2x, List.map_replicate]
      exact hD29
    · rw [upd_ne nD3x, List.map_replicate]
      exact hD39
    · rw [upd_ne nD4x]
      exact hD49
    · exact fun z => by
        have z' : J = D1 := z
        rw [← z', hJ] at nD10
        cases nD10
    · exact fun z => by
        have z' : J = D2 := z
        rw [← z', hJ] at nD20
        cases nD20
    · exact fun z => by
        have z' : J = D3 := z
        rw [← z', hJ] at nD30
        cases nD30
    · obtain ⟨i, hi⟩ := List.mem_iff_getElem?.mp z
      obtain ⟨r, _, h1, _⟩ := paired_at hds hi
      rw [show D4 = D4 from rfl] at h1
      exact absurd (h1.symm.trans nD40) (by simp)
end
end CH
end

section
set_option Elab.async false
set_option linter.all false
set_option maxRecDepth 100000
set_option maxHeartbeats 4000000
namespace CH
open PySem PySem.Spec PyProof.Rows L2
open GxR (TabB TabG Tabbed)
/-- the dicts, locked or not -/
def JL (H : Hp) (ds : List Addr) (rows : Rows) : Prop := Paired (fun d r => Rd H d (.dK (jrow r)) ∧ r.1.Nodup ∧ r.1.length ≤ 12 ∧ ∀ h ∈ r.1, 0 ≤ h ∧ h ≤ 11) ds rows
theorem JsAt.jl {H : Hp} {ds : List Addr} {rows : Rows} (h : JsAt H ds rows) : JL H ds rows := paired_imp (fun _ _ z => ⟨.inl z.1, z.2⟩) h
theorem JL.k {H H' : Hp} {ds : List Addr} {rows : Rows} (k : Kx H H') (h : JL H ds rows) : JL H' ds rows := paired_imp (fun _ _ z => ⟨k.rd (fun ps q => nomatch q) z.1, z.2⟩) h
/-- what of seats is read -/
structure SeatsR (cSe : Addr) (H : Hp) (a : Sa) (rows : Rows) (ps rs : List Int) : Prop where
  ob : H a.s = some (.ins cSe a.dx a.flds)
  hJ : H a.J = some (.lst (a.ds.map V.ref))
  hd : JL H a.ds rows
  hp : H a.Pp = some (.lst (ps.map V.int))
  hr : H a.Rr = some (.lst (rs.map V.int))
  l2 : ps.length = rows.length
  l3 : rs.length = 12
theorem SeatsR.k {cSe : Addr} {H H' : Hp} {a : Sa} {rows : Rows} {ps rs : List Int} (k : Kx H H') (h : SeatsR cSe H a rows ps rs) : SeatsR cSe H' a rows ps rs :=
  ⟨k.o _ _ h.ob (fun ps z => nomatch z), k.lst h.hJ, h.hd.k k, k.lst h.hp, k.lst h.hr, h.l2, h.l3⟩
theorem fld_jumps (a : Sa) : a.flds.lookup ("jumps" : Str) = some (.ref a.J) := rfl
theorem fld_prices (a : Sa) : a.flds.lookup ("prices" : Str) = some (.ref a.Pp) := rfl
theorem fld_rents (a : Sa) : a.flds.lookup ("rents" : Str) = some (.ref a.Rr) := rfl
theorem fld_hours (a : Sa) : a.flds.lookup ("hours" : Str) = some (.ref a.Hh) := rfl
theorem fld_holders (a : Sa) : a.flds.lookup ("holders" : Str) = some (.ref a.Ho) := rfl
theorem canAt_of {rows : Rows} {i : Nat} {r : List Int × Option Int} (h : rows[i]? = some r) : canAt rows i = r.1 ∧ ∀ x, cost rows i x = jumpZ r.2 x := by
  unfold canAt cost
  rw [List.getD_eq_getElem?_getD, h]
  exact ⟨rfl, fun x => rfl⟩
section
variable {P : Program} {w : World} {K : PySem.W.Frag} {mg : Str → Option Value} {base : Heap} {c aA cc cm cSe : Addr}
def sp_gap (cSe : Addr) : Sp := fun vs H Q _ => ∃ (a : Sa) (rows : Rows) (ps rs : List Int) (i : Nat) (h : Int), vs = [.ref a.s, .int (i : Int), .int h] ∧ SeatsR cSe H a rows ps rs ∧ i < rows.length ∧ h ∈ canAt rows i ∧ Q (.int (cost rows i h - pr ps i - rn rs h)) H
theorem ok_gap (D : MetT K cSe "gap" "Seats.gap" st_Seats_gap c) (e_Seats : Own K mg "Seats" cSe) (n1 : NoAttr K cSe "jumps") (n3 : NoAttr K cSe "prices") (n4 : NoAttr K cSe "rents") : C8.Met P w K mg base 1 cSe "gap" (sp_gap cSe) [] := by
  refine met_of D sc_Seats_gap (fun _ _ _ _ _ _ us hl => match us, hl with | [_, _, _], _ => rfl) (fun vs H Q E h => ?_) (fun f A outer s H vs Q E hr h => ?_)
  · obtain ⟨a, rows, ps, rs, i, h, rfl, _⟩ := h
    rfl
  · obtain ⟨a, rows, ps, rs, i, h, rfl, S, hi, hh, q⟩ := h
    have nd := sc_Seats_gap.nd
    have hu := hu_of hr
    refine ⟨_, (pss_one (ps_ret (pe_op op_sub (pe_op op_sub (pe_dget hu (pe_ix ix_list (pe_fld (pv 0) rfl) (pv 1) (fun _ _ => rfl)) (pv 2) (fun _ _ => rfl)) (pe_ix ix_list (pe_fld (pv 0) rfl) (pv 1) (fun _ _ => rfl))) (pe_ix ix_list (pe_fld (pv 0) rfl) (pv 2) (fun _ _ => rfl))))), ?_⟩
    obtain ⟨d, hd⟩ : ∃ d, a.ds[i]? = some d := ⟨_, List.getElem?_eq_getElem (by rw [paired_len S.hd]; exact hi)⟩
    obtain ⟨r, hrr, hrd, _, _, hin⟩ := paired_at S.hd hd
    obtain ⟨e1, e2⟩ := canAt_of hrr
    rw [e1] at hh
    have hb := hin h hh
    refine ⟨_, rfl, a.s, cSe, a.dx, _, _, rfl, S.ob, e_Seats.cl, n1, fld_jumps a, _, rfl, a.J, _, _, .ref d, rfl, rfl, sq_of S.hJ, atI_nat (by rw [List.getElem?_map, hd] <;> rfl), _, rfl, d, .int (jumpZ r.2 h), rfl, ?_, ?_⟩
    · exact .inl ⟨jrow r, Sum.inl h, hrd, rfl, by rw [jrow_get, if_pos hh]⟩
    have hps : (ps.map V.int)[i]? = some (.int (pr ps i)) := by
      have hl : i < ps.length := by rw [S.l2]; exact hi
      unfold pr
      rw [List.getElem?_map, List.getElem?_eq_getElem hl, List.getD_eq_getElem?_getD, List.getElem?_eq_getElem hl] <;> rfl
    have hrs : (rs.map V.int)[h.toNat]? = some (.int (rn rs h)) := by
      have hl : h.toNat < rs.length := by rw [S.l3]; omega
      unfold rn
      rw [List.getElem?_map, List.getElem?_eq_getElem hl, List.getD_eq_getElem?_getD, List.getElem?_eq_getElem hl] <;> rfl
    refine ⟨_, rfl, a.s, cSe, a.dx, _, _, rfl, S.ob, e_Seats.cl, n3, fld_prices a, _, rfl, a.Pp, _, _, .int (pr ps i), rfl, rfl, sq_of S.hp, atI_nat hps, _, _, rfl, rfl, ?_⟩
    refine ⟨_, rfl, a.s, cSe, a.dx, _, _, rfl, S.ob, e_Seats.cl, n4, fld_rents a, _, rfl, a.Rr, _, _, .int (rn rs h), rfl, rfl, sq_of S.hr, ?_, _, _, rfl, rfl, ?_⟩
    · have z := atI_nat hrs
      rw [show ((h.toNat : Nat) : Int) = h from Int.toNat_of_nonneg hb.1] at z
      exact z
    · rw [e2 h] at q
      exact q
abbrev st_Seats_ways : Stmt := inClass (top 64) 2
abbrev nm_Seats_ways : List Str := ["self", "asking", "reached", "meeting", "hour"]
theorem sc_Seats_ways : FnScope nm_Seats_ways ["self", "asking", "reached"] (defScope st_Seats_ways) := C8.fnScope_by (by decide +kernel)
/-- the ways from those who ask to hours not reached -/
def waysL (rows : Rows) (ps rs : List Int) (keys : List Int) (as : List Nat) : List (List Int) := as.flatMap fun i => ((canAt rows i).filter fun h => !decide (h ∈ keys)).map fun h => [cost rows i h - pr ps i - rn rs h, h, (i : Int)]
/-- the dict of hours reached, by whom -/
def reachK (rk : List (Int × Nat)) : List (Key × V) := rk.map fun p => ((Sum.inl p.1 : Key), V.int (p.2 : Int))
theorem reach_get {h : Int} : ∀ {rk : List (Int × Nat)}, (valV (reachK rk) (Sum.inl h)).isSome = decide (h ∈ rk.map (·.1))
  | [] => rfl
  | p :: rk => by
    unfold reachK
    by_cases e : p.1 = h
    · rw [List.map_cons, valV_pos (p := ((Sum.inl p.1 : Key), V.int (p.2 : Int))) (by rw [e]), decide_eq_true (by rw [List.map_cons, e]; exact List.mem_cons_self)]
      rfl
    · rw [List.map_cons, valV_neg (p := ((Sum.inl p.1 : Key), V.int (p.2 : Int))) (fun z => e (Sum.inl.inj z))]
      have ih := reach_get (h := h) (rk := rk)
      unfold reachK at ih
      rw [ih]
      refine decide_eq_decide.mpr ⟨fun z => List.mem_cons_of_mem _ z, fun z => ?_⟩
      rcases List.mem_cons.mp z with z | z
      · exact absurd z.symm e
      · exact z
def sp_ways (K : PySem.W.Frag) (cSe : Addr) : Sp := fun vs H Q _ => ∃ (a : Sa) (rows : Rows) (ps rs : List Int) (la lr : Addr) (as : List Nat) (rk : List (Int × Nat)), vs = [.ref a.s, .ref la, .ref lr] ∧ SeatsR cSe H a rows ps rs ∧ JsAt H a.ds rows ∧ a.ds.Nodup ∧ H la = some (.lst (as.map fun (i : Nat) => V.int (i : Int))) ∧ (∀ i ∈ as, i < rows.length) ∧ as.length ≤ 1000 ∧
  H lr = some (.dK (reachK rk)) ∧ la ∉ a.ds ∧ lr ∉ a.ds ∧
  ∀ (H' : Hp) (r : Addr) (ts : List Addr), Kx H H' → H r = none → H' r = some (.lst (ts.map V.ref)) → Paired (fun t (x : List Int) => H' t = some (.tup (x.map V.int))) ts (waysL rows ps rs (rk.map (·.1)) as) → Q (.ref r) H'
theorem ok_ways (D : MetT K cSe "ways" "Seats.ways" st_Seats_ways c) (e_Seats : Own K mg "Seats" cSe) (n1 : NoAttr K cSe "jumps") (m_Seats_gap : C8.Met P w K mg base 1 cSe "gap" (sp_gap cSe) []) : C8.Met P w K mg base 2 cSe "ways" (sp_ways K cSe) [] := by
  refine met_of D sc_Seats_ways (fun _ _ _ _ _ _ us hl => match us, hl with | [_, _, _], _ => rfl) (fun vs H Q E h => ?_) (fun f A outer s H vs Q E hr h => ?_)
  · obtain ⟨a, rows, ps, rs, la, lr, as, rk, rfl, _⟩ := h
    rfl
  · obtain ⟨a, rows, ps, rs, la, lr, as, rk, rfl, S, hds, ndd, hla, has, l1000, hlr, nla, nlr, q⟩ := h
    have nd := sc_Seats_ways.nd
    have hu := hu_of hr
    refine ⟨_, (pss_one (ps_ret (pe_lockN (pe_lc2 (own := [("meeting", 3), ("hour", 4)]) (vs1 := [4]) (g := gName 3) (g1 := gName 4) (tt := tYes) (by rfl) nd (pi_list (pv 1)) (blkOk_by (own := [("meeting", 3), ("hour", 4)]) (N := nm_Seats_ways) (sc := defScope st_Seats_ways) (by decide +kernel)) (by decide) (fun _ _ _ _ _ => pg_name (i := 3) nd rfl (Or.inl rfl)) (fun _ _ _ _ _ => pts_nil) (fun _ _ _ _ _ => (show PI _ _ _ (iKeys _) from pi_keys (pe_ix (show IxR _ (rIxL K) from ix_list) (show PE _ _ (tFld K _ "jumps") from pe_fld (pv 0) rfl) (pv 3) (fun _ _ => rfl)))) (fun _ _ _ _ _ => pg_name (i := 4) nd rfl (Or.inl rfl)) (fun _ _ _ _ _ => pts_one (pt_cmp (pc_dnotin hu (pv 4) (pv 2)))) (fun _ _ _ _ _ => (pe_tup (pa_cons (C8.pe_mt m_Seats_gap hr (by first | decide | exact hkp) (pv 0) (pa_cons (pv 3) (pa_cons (pv 4) pa_nil))) (pa_cons (pv 4) (pa_cons (pv 3) pa_nil))))))))), ?_⟩
    refine ⟨a.ds.length, lock_all a.ds H _ ndd (fun d hd => ?_) fun G Q' lk hq' => ?_⟩
    · obtain ⟨i, hi⟩ := List.mem_iff_getElem?.mp hd
      obtain ⟨r, _, h1, _⟩ := paired_at hds hi
      exact ⟨_, h1, trivial⟩
    -- as it stands under the locks
    have keep : ∀ {b : Addr} {u : HO}, b ∉ a.ds → H b = some u → G b = some u := fun n e => by rw [lk.out _ n]; exact e
    have jG : JL G a.ds rows := paired_imp_mem (fun d hd r z => ⟨by
      obtain ⟨od, u, h1, _, h3⟩ := lk.in_ d hd
      rw [z.1] at h1
      rw [← Option.some.inj h1] at h3
      exact .inr ⟨od, h3⟩, z.2⟩) hds
    have frz : ∀ (i : Nat) (d : Addr), a.ds[i]? = some d → ∃ od r, rows[i]? = some r ∧ G d = some (.frz od (.dK (jrow r))) := fun i d hd => by
      obtain ⟨r, hr, z, _⟩ := paired_at hds hd
      obtain ⟨od, u, h1, _, h3⟩ := lk.in_ d (List.mem_of_getElem? hd)
      rw [z] at h1
      rw [← Option.some.inj h1] at h3
      exact ⟨od, r, hr, h3⟩
    have notd : ∀ {b : Addr} {xs : List V}, H b = some (.lst xs) → b ∉ a.ds := fun h z => by
      obtain ⟨i, hi⟩ := List.mem_iff_getElem?.mp z
      obtain ⟨r, _, h1, _⟩ := paired_at hds hi
      rw [h] at h1
      cases h1
    have nsd : a.s ∉ a.ds := fun z => by
      obtain ⟨i, hi⟩ := List.mem_iff_getElem?.mp z
      obtain ⟨r, _, h1, _⟩ := paired_at hds hi
      rw [S.ob] at h1
      cases h1
    have SG : SeatsR cSe G a rows ps rs := ⟨keep nsd S.ob, keep (notd S.hJ) S.hJ, jG, keep (notd S.hp) S.hp, keep (notd S.hr) S.hr, S.l2, S.l3⟩
    have hlaG := keep nla hla
    have hlrG := keep nlr hlr
    have lds := paired_len hds
    generalize ekeys : rk.map (·.1) = keys at q
    refine ⟨_, rfl, la, rfl, ⟨_, sq_of hlaG⟩, fun D nD => ?_⟩
    let Iv : Nat → List (List Int) → Hp → Prop := fun n L Hc => Kx G Hc ∧ ∃ ts : List Addr, Hc D = some (.lst (ts.map V.ref)) ∧ Paired (fun t (x : List Int) => Hc t = some (.tup (x.map V.int))) ts L ∧ ts.length ≤ n
    have ivD : ∀ {n : Nat} {L : List (List Int)} {Hc : Hp} {ts : List Addr}, Paired (fun t (x : List Int) => Hc t = some (.tup (x.map V.int))) ts L → ∀ {o u : HO}, Hc D = some o → (∀ ys, o ≠ .tup ys) → Paired (fun t (x : List Int) => (upd Hc D u) t = some (.tup (x.map V.int))) ts L := fun h o u ho no => by
      refine paired_imp (fun t x z => ?_) h
      rw [upd_ne fun e => no _ (Option.some.inj (ho.symm.trans (by rw [← e]; exact z)))]
      exact z
    refine ⟨fun i m Hc => m = as.length - i ∧ i ≤ as.length ∧ Iv (12 * i) (waysL rows ps rs keys (as.take i)) Hc, ⟨as.length, rfl, Nat.zero_le _, Kx.new nD, [], upd_same, .nil, Nat.zero_le _⟩, ?_⟩
    rintro i m Hc ⟨rfl, hi, kc, ts, hD, hts, lts⟩
    by_cases hlt : i < as.length
    · have hx : (as.map fun (i : Nat) => V.int (i : Int))[i]? = some (.int (as[i] : Nat)) := by rw [List.getElem?_map, List.getElem?_eq_getElem hlt] <;> rfl
      have qx := kc.l (sq_of (K := K) hlaG)
      refine .inr ⟨⟨_, _, qx, hx⟩, fun H' => Iv (12 * (i + 1)) (waysL rows ps rs keys (as.take (i + 1))) H', fun H' p' => ⟨as.length - (i + 1), by omega, rfl, hlt, p'⟩, fun v H' y => ?_⟩
      obtain ⟨e, y⟩ := y
      subst e
      have ev : v = .int (as[i] : Nat) := Option.some.inj ((y _ qx).symm.trans hx)
      subst ev
      have hin := has as[i] (List.getElem_mem hlt)
      obtain ⟨d, hd⟩ : ∃ d, a.ds[as[i]]? = some d := ⟨_, List.getElem?_eq_getElem (by rw [lds]; exact hin)⟩
      obtain ⟨od, r, hrr, hfz⟩ := frz _ _ hd
      obtain ⟨e1, e2⟩ := canAt_of hrr
      obtain ⟨r', hr', _, _, l12, _⟩ := paired_at hds hd
      obtain rfl : r = r' := Option.some.inj (hrr.symm.trans hr')
      have Sc := SG.k kc
      refine ⟨rfl, yesT ?_⟩
      refine ⟨_, rfl, a.s, cSe, a.dx, _, _, rfl, Sc.ob, e_Seats.cl, n1, fld_jumps a, _, rfl, a.J, _, _, .ref d, rfl, rfl, sq_of Sc.hJ, atI_nat (by rw [List.getElem?_map, hd] <;> rfl), d, od, rfl, .inl ⟨jrow r, kc.o _ _ hfz (fun ps z => nomatch z), ?_⟩⟩
      let row : Int → List Int := fun h => [cost rows as[i] h - pr ps as[i] - rn rs h, h, (as[i] : Int)]
      refine ⟨fun j k Hd => k = r.1.length - j ∧ j ≤ r.1.length ∧ Iv (12 * i + j) (waysL rows ps rs keys (as.take i) ++ ((r.1.take j).filter fun h => !decide (h ∈ keys)).map row) Hd, ⟨r.1.length, rfl, Nat.zero_le _, kc, ts, hD, by rw [List.take_zero, List.filter_nil, List.map_nil, List.append_nil]; exact hts, lts⟩, ?_⟩
      rintro j k Hd ⟨rfl, hj, kd, us, hDd, hus, lus⟩
      by_cases hjl : j < r.1.length
      · have hk0 : (jrow r)[j]? = some ((Sum.inl r.1[j] : Key), V.int (jumpZ r.2 r.1[j])) := by
          unfold jrow
          rw [List.getElem?_map, List.getElem?_eq_getElem hjl] <;> rfl
        refine .inr ⟨⟨kd.o _ _ hfz (fun ps z => nomatch z), by unfold jrow; rw [List.length_map]; exact hjl⟩, fun H' => Iv (12 * i + (j + 1)) (waysL rows ps rs keys (as.take i) ++ ((r.1.take (j + 1)).filter fun h => !decide (h ∈ keys)).map row) H', fun H' p' => ⟨r.1.length - (j + 1), by omega, rfl, hjl, p'⟩, fun x H' y => ?_⟩
        obtain ⟨rfl, kk, vv, hk, rfl⟩ := y
        rw [hk0] at hk
        obtain ⟨rfl, rfl⟩ : Sum.inl r.1[j] = kk ∧ V.int (jumpZ r.2 r.1[j]) = vv := ⟨congrArg Prod.fst (Option.some.inj hk), congrArg Prod.snd (Option.some.inj hk)⟩
        have hlrd := kd.o _ _ hlrG fun ps z => nomatch z
        have et : r.1.take (j + 1) = r.1.take j ++ [r.1[j]] := by rw [List.take_add_one, List.getElem?_eq_getElem hjl] <;> rfl
        refine ⟨rfl, _, rfl, _, rfl, lr, _, rfl, DGet.k (k := Sum.inl r.1[j]) hlrd, _, rfl, ?_⟩
        rw [reach_get, ekeys]
        by_cases hkk : r.1[j] ∈ keys
        · rw [decide_eq_true hkk]
          refine iteF ?_
          refine ⟨kd, us, hDd, ?_, by omega⟩
          rw [et, filter_snoc, if_neg (by rw [decide_eq_true hkk]; decide), List.append_nil]
          exact hus
        · rw [decide_eq_false hkk]
          refine iteT ?_
          have Sd := SG.k kd
          refine ⟨_, rfl, a.s, a.dx, _, rfl, Sd.ob, rfl, _, rfl, _, rfl, a, rows, ps, rs, as[i], r.1[j], rfl, Sd, hin, by rw [e1]; exact List.getElem_mem hjl, ?_⟩
          refine ⟨_, rfl, _, rfl, (by show 3 ≤ sizeLine; decide), fun t nt => ?_⟩
          have k3 : Kx H' (upd H' t (.tup ((row r.1[j]).map V.int))) := Kx.new nt
          have hD3 := k3.lst hDd
          refine ⟨_, hD3, by rw [List.length_map]; exact lt80 (by omega), (kd.trans k3).mut nD, us ++ [t], by rw [upd_same, List.map_append] <;> rfl, ?_, by rw [List.length_append]; show _ + 1 ≤ _; omega⟩
          rw [et, filter_snoc, if_pos (by rw [decide_eq_false hkk]; rfl), List.map_append, ← List.append_assoc]
          have base3 : Paired (fun t' (x : List Int) => (upd H' t (.tup ((row r.1[j]).map V.int))) t' = some (.tup (x.map V.int))) (us ++ [t]) ((waysL rows ps rs keys (as.take i) ++ ((r.1.take j).filter fun h => !decide (h ∈ keys)).map row) ++ [row r.1[j]]) :=
            paired_snoc (paired_imp (fun t x z => k3.tup z) hus) upd_same
          exact ivD (n := 0) base3 hD3 fun _ z => nomatch z
      · have ej : j = r.1.length := by omega
        subst ej
        rw [List.take_length] at hus
        refine .inl ⟨⟨kd.o _ _ hfz (fun ps z => nomatch z), by unfold jrow; rw [List.length_map]; exact Nat.le_refl _⟩, kd, us, hDd, ?_, by omega⟩
        have ew : waysL rows ps rs keys (as.take (i + 1)) = waysL rows ps rs keys (as.take i) ++ (r.1.filter fun h => !decide (h ∈ keys)).map row := by
          unfold waysL
          rw [List.take_add_one, List.getElem?_eq_getElem hlt, List.flatMap_append]
          congr 1
          rw [show (some as[i]).toList = [as[i]] from rfl, List.flatMap_cons, List.flatMap_nil, List.append_nil, e1]
        rw [ew]
        exact hus
    · have ei : i = as.length := by omega
      subst ei
      rw [List.take_length] at hts
      refine .inl ⟨⟨_, kc.l (sq_of hlaG), by rw [List.length_map]; exact Nat.le_refl _⟩, ?_⟩
      have nDd : D ∉ a.ds := fun z => by
        obtain ⟨i, hi⟩ := List.mem_iff_getElem?.mp z
        obtain ⟨_, _, _, h3⟩ := frz i D hi
        rw [nD] at h3
        cases h3
      refine hq' (.ref D) Hc (fun d hd => ?_) fun U ul => ?_
      · obtain ⟨i, hi⟩ := List.mem_iff_getElem?.mp hd
        obtain ⟨_, _, _, h3⟩ := frz i d hi
        rw [h3]
        exact kc.o _ _ h3 fun ps z => nomatch z
      · have kU := ul.kx lk kc
        refine q U D ts kU ?_ ?_ ?_
        · have := lk.out D nDd
          rw [← this]
          exact nD
        · rw [ul.out D nDd]
          exact hD
        · refine paired_imp_mem (fun t ht x z => ?_) hts
          have ntd : t ∉ a.ds := fun w => by
            obtain ⟨i, hi⟩ := List.mem_iff_getElem?.mp w
            obtain ⟨_, _, _, h3⟩ := frz i t hi
            have := kc.o _ _ h3 fun ps z => nomatch z
            rw [z] at this
            cases this
          rw [ul.out t ntd]
          exact z
end
end CH
end

section
set_option Elab.async false
set_option linter.all false
set_option maxRecDepth 100000
set_option maxHeartbeats 4000000
namespace CH
open PySem PySem.Spec PyProof.Rows L2
open GxR (TabB TabG Tabbed)
/-- for k in d, d locked -/
theorem for_keys {d : Addr} {od : Obj} {kvs : List (Key × V)} {g : TG} {tb : TS} {D : Ends} {σ : L2.St} {H : Hp} (Pv : Nat → L2.St → Hp → Prop) (h0 : Pv 0 σ H) (hl : ∀ i σ H, Pv i σ H → H d = some (.frz od (.dK kvs)))
    (hs : ∀ (i : Nat) (k : Key) (v : V) (σ : L2.St) (H : Hp), kvs[i]? = some (k, v) → Pv i σ H → g (kV k) σ H fun σ2 H2 => tb { D with nx := Pv (i + 1), ct := Pv (i + 1), bk := D.nx } σ2 H2) (hd : ∀ σ H, Pv kvs.length σ H → D.nx σ H) :
    ∃ W : Nat → Nat → L2.St → Hp → Prop, (∃ m, W 0 m σ H) ∧ ∀ i m σ H, W i m σ H →
      ((Itk d od kvs).stop i H ∧ D.nx σ H) ∨ ((Itk d od kvs).go i H ∧ ∃ N : L2.St → Hp → Prop, (∀ σ' H', N σ' H' → ∃ m', m' < m ∧ W (i + 1) m' σ' H') ∧ ∀ v H', (Itk d od kvs).yld i H v H' → g v σ H' fun σ2 H2 => tb { D with nx := N, ct := N, bk := D.nx } σ2 H2) := by
  refine ⟨fun i m σ H => m = kvs.length - i ∧ i ≤ kvs.length ∧ Pv i σ H, ⟨kvs.length, rfl, Nat.zero_le _, h0⟩, ?_⟩
  rintro i m σ H ⟨rfl, hi, p⟩
  have q := hl i σ H p
  by_cases hlt : i < kvs.length
  · refine .inr ⟨⟨q, hlt⟩, Pv (i + 1), fun σ' H' p' => ⟨kvs.length - (i + 1), by omega, rfl, hlt, p'⟩, fun v H' y => ?_⟩
    obtain ⟨eH, k, z, hk, rfl⟩ := y
    rw [eH]
    exact hs i k z σ H hk p
  · have e : i = kvs.length := by omega
    subst e
    exact .inl ⟨⟨q, Nat.le_refl _⟩, hd σ H p⟩
theorem pr_set {ps : List Int} {i j : Nat} {v : Int} (hi : i < ps.length) : pr (ps.set i v) j = if i = j then v else pr ps j := by
  unfold pr
  rw [List.getD_eq_getElem?_getD, List.getD_eq_getElem?_getD]
  by_cases e : i = j
  · subst e
    rw [if_pos rfl, List.getElem?_set_self hi]
    rfl
  · rw [if_neg e, List.getElem?_set_ne e]
theorem rn_set {rs : List Int} {g h : Int} {v : Int} (hg : g.toNat < rs.length) (h0 : 0 ≤ h) (g0 : 0 ≤ g) : rn (rs.set g.toNat v) h = if g = h then v else rn rs h := by
  have := pr_set (ps := rs) (i := g.toNat) (j := h.toNat) (v := v) hg
  unfold pr at this
  unfold rn
  rw [this]
  by_cases e : g = h
  · subst e
    rw [if_pos rfl, if_pos rfl]
  · rw [if_neg e, if_neg (by omega)]
theorem SeatsAt.ke {cSe : Addr} {H H' : Hp} {a : Sa} {rows : Rows} {hs : List (Option Int)} {ps rs ps' rs' : List Int} {kvs : List (Key × V)} {hf : Int → Option Nat} (S : SeatsAt cSe H a rows hs ps rs kvs hf) (k : Ke [a.Pp, a.Rr] H H') (hp : H' a.Pp = some (.lst (ps'.map V.int))) (hr : H' a.Rr = some (.lst (rs'.map V.int))) :
    SeatsAt cSe H' a rows hs ps' rs' kvs hf := by
  have no : ∀ {b : Addr} {u : HO}, H b = some u → (∀ xs, u ≠ .lst xs) → b ∉ [a.Pp, a.Rr] := fun {b u} h n z => by
    simp only [List.mem_cons, List.not_mem_nil, or_false] at z
    rcases z with rfl | rfl
    · rw [S.hp] at h
      exact n _ (Option.some.inj h).symm
    · rw [S.hr] at h
      exact n _ (Option.some.inj h).symm
  have n2 : ∀ {b : Addr}, b ≠ a.Pp → b ≠ a.Rr → b ∉ [a.Pp, a.Rr] := fun h1 h2 z => by
    simp only [List.mem_cons, List.not_mem_nil, or_false] at z
    rcases z with z | z
    · exact h1 z
    · exact h2 z
  refine ⟨k.o _ _ (no S.ob fun _ z => nomatch z) S.ob (fun _ z => nomatch z), k.o _ _ (n2 S.n1.2.1 S.n1.2.2) S.hJ (fun _ z => nomatch z), paired_imp (fun d r z => ⟨k.o _ _ (no z.1 fun _ z => nomatch z) z.1 (fun _ z => nomatch z), z.2⟩) S.hd,
    k.o _ _ (n2 S.n2.1 S.n2.2.1) S.hh (fun _ z => nomatch z), hp, hr, k.o _ _ (no S.ho fun _ z => nomatch z) S.ho (fun _ z => nomatch z), S.hf_, S.n1, S.n2, S.n3, S.nd⟩
section
variable {P : Program} {w : World} {K : PySem.W.Frag} {mg : Str → Option Value} {base : Heap} {c aA cc cm cSe : Addr}
abbrev st_Seats_raise_prices : Stmt := inClass (top 64) 3
abbrev nm_Seats_raise_prices : List Str := ["self", "asking", "reached", "step", "meeting", "hour"]
theorem sc_Seats_raise_prices : FnScope nm_Seats_raise_prices ["self", "asking", "reached", "step"] (defScope st_Seats_raise_prices) := C8.fnScope_by (by decide +kernel)
def sp_raise (cSe : Addr) : Sp := fun vs H Q _ => ∃ (a : Sa) (rows : Rows) (hs : List (Option Int)) (ps rs : List Int) (kvs : List (Key × V)) (hf : Int → Option Nat) (la lr : Addr) (as : List Nat) (rk : List (Int × Nat)) (x : Int), vs = [.ref a.s, .ref la, .ref lr, .int x] ∧ SeatsAt cSe H a rows hs ps rs kvs hf ∧ H la = some (.lst (as.map fun (i : Nat) => V.int (i : Int))) ∧ H lr = some (.dK (reachK rk)) ∧
  la ≠ a.Pp ∧ la ≠ a.Rr ∧ as.Nodup ∧ (∀ i ∈ as, i < rows.length) ∧ (rk.map (·.1)).Nodup ∧ (∀ h ∈ rk.map (·.1), 0 ≤ h ∧ h ≤ 11) ∧ ps.length = rows.length ∧ rs.length = 12 ∧
  ∀ (H' : Hp) (ps' rs' : List Int), Ke [a.Pp, a.Rr] H H' → SeatsAt cSe H' a rows hs ps' rs' kvs hf → ps'.length = ps.length → rs'.length = rs.length → (∀ i, pr ps' i = pr ps i + if i ∈ as then x else 0) → (∀ h : Int, 0 ≤ h → rn rs' h = rn rs h - if h ∈ rk.map (·.1) then x else 0) → Q .non H'
theorem ok_raise (D : MetT K cSe "raise_prices" "Seats.raise_prices" st_Seats_raise_prices c) (e_Seats : Own K mg "Seats" cSe) (n3 : NoAttr K cSe "prices") (n4 : NoAttr K cSe "rents") : C8.Met P w K mg base 1 cSe "raise_prices" (sp_raise cSe) [] := by
  refine met_of D sc_Seats_raise_prices (fun _ _ _ _ _ _ us hl => match us, hl with | [_, _, _, _], _ => rfl) (fun vs H Q E h => ?_) (fun f A outer s H vs Q E hr h => ?_)
  · obtain ⟨a, rows, hs, ps, rs, kvs, hf, la, lr, as, rk, x, rfl, _⟩ := h
    rfl
  · obtain ⟨a, rows, hs, ps, rs, kvs, hf, la, lr, as, rk, x, rfl, S, hla, hlr, nl1, nl2, asnd, has, rnd, rin, lp, lrs, q⟩ := h
    have nd := sc_Seats_raise_prices.nd
    refine ⟨_, (pss_cons (ps_for PassesOwn.never rfl (pi_list (pv 1)) (pg_name (i := 4) nd rfl (Or.inl rfl)) (pss_one (ps_augL (pe_fld (pv 0) rfl) (pv 4) (pv 3) ip_add)))
      (pss_one (ps_lock (ps_for PassesOwn.never rfl (pi_keys (pv 2)) (pg_name (i := 5) nd rfl (Or.inl rfl)) (pss_one (ps_augL (pe_fld (pv 0) rfl) (pv 5) (pv 3) ip_sub)))))), ?_⟩
    have nsP : a.s ≠ a.Pp := fun z => by have := S.ob; rw [z, S.hp] at this; cases this
    have nsR : a.s ≠ a.Rr := fun z => by have := S.ob; rw [z, S.hr] at this; cases this
    have nlrP : lr ≠ a.Pp := fun z => by rw [z, S.hp] at hlr; cases hlr
    have nlrR : lr ≠ a.Rr := fun z => by rw [z, S.hr] at hlr; cases hlr
    refine ⟨_, rfl, la, rfl, ⟨_, sq_of hla⟩, for_list (K := K) (a := la) (xs := as.map fun (i : Nat) => V.int (i : Int)) (fun j σ H2 => ∃ (v4 v5 : Option V) (ps' : List Int), σ = [some (.ref a.s), some (.ref la), some (.ref lr), some (.int x), v4, v5] ∧ Ke [a.Pp, a.Rr] H H2 ∧ H2 a.s = some (.ins cSe a.dx a.flds) ∧ H2 la = some (.lst (as.map fun (i : Nat) => V.int (i : Int))) ∧ H2 a.Pp = some (.lst (ps'.map V.int)) ∧ H2 a.Rr = some (.lst (rs.map V.int)) ∧ H2 lr = some (.dK (reachK rk)) ∧ ps'.length = ps.length ∧ ∀ i, pr ps' i = pr ps i + if i ∈ as.take j then x else 0)
      ⟨none, none, ps, rfl, Ke.refl _ _, S.ob, hla, S.hp, S.hr, hlr, rfl, fun i => by rw [List.take_zero, if_neg (by simp), Int.add_zero]⟩ (fun j σ H2 _ ⟨_, _, _, _, _, _, h, _⟩ => sq_of h) ?_ ?_⟩
    · rintro j y σ H2 hj ⟨v4, v5, ps', rfl, k2, hs2, hla2, hp2, hr2, hlr2, lps, eps⟩
      obtain ⟨i, hi, rfl⟩ : ∃ i, as[j]? = some i ∧ V.int (i : Nat) = y := by
        rw [List.getElem?_map] at hj
        exact Option.map_eq_some_iff.mp hj
      have hil : i < ps'.length := by rw [lps, lp]; exact has i (List.mem_of_getElem? hi)
      have hget : (ps'.map V.int)[i]? = some (.int (pr ps' i)) := by
        unfold pr
        rw [List.getElem?_map, List.getElem?_eq_getElem hil, List.getD_eq_getElem?_getD, List.getElem?_eq_getElem hil] <;> rfl
      refine ⟨_, rfl, a.s, cSe, a.dx, _, _, rfl, hs2, e_Seats.cl, n3, fld_prices a, _, rfl, a.Pp, _, i, _, rfl, rfl, sq_of hp2, hget, _, rfl, _, _, rfl, rfl, a.Pp, _, _, i, rfl, rfl, hp2, ixn_at (by rw [List.length_map]; exact hil), ?_⟩
      rw [← List.map_set]
      refine ⟨_, _, ps'.set i (pr ps' i + x), rfl, k2.mut (by simp), by rw [upd_ne nsP]; exact hs2, by rw [upd_ne nl1]; exact hla2, upd_same, by rw [upd_ne S.n2.2.2.symm]; exact hr2, by rw [upd_ne nlrP]; exact hlr2, by rw [List.length_set]; exact lps, fun i' => ?_⟩
      have et : as.take (j + 1) = as.take j ++ [i] := by rw [List.take_add_one, hi] <;> rfl
      have hni : i ∉ as.take j := fun z => by
        obtain ⟨t, ht⟩ := List.mem_iff_getElem?.mp z
        have htl := (List.getElem?_eq_some_iff.mp ht).1
        rw [List.length_take] at htl
        rw [List.getElem?_take_of_lt (by omega)] at ht
        have hjl := (List.getElem?_eq_some_iff.mp hi).1
        have := (List.getElem?_inj hjl asnd).mp (hi.trans ht.symm)
        omega
      rw [pr_set hil, et, eps i']
      by_cases e : i = i'
      · subst e
        rw [if_pos rfl, eps i, if_neg hni, if_pos (by simp)]
        omega
      · rw [if_neg e]
        have : (i' ∈ as.take j ++ [i]) ↔ i' ∈ as.take j := ⟨fun z => by
          rcases List.mem_append.mp z with z | z
          · exact z
          · exact absurd (List.mem_singleton.mp z).symm e, fun z => List.mem_append_left _ z⟩
        by_cases z : i' ∈ as.take j
        · rw [if_pos z, if_pos (this.mpr z)]
        · rw [if_neg z, if_neg fun y => z (this.mp y)]
    · rintro σ H2 ⟨v4, v5, ps', rfl, k2, hs2, hla2, hp2, hr2, hlr2, lps, eps⟩
      rw [List.length_map, List.take_length] at eps
      refine ⟨lr, _, hlr2, trivial, fun od => ?_⟩
      have key : ∀ {b : Addr} {u : HO}, H2 b = some u → (∀ k, u ≠ .dK k) → b ≠ lr := fun h n z => by
        rw [z, hlr2] at h
        exact n _ (Option.some.inj h).symm
      have nsl := key hs2 fun _ z => nomatch z
      have npl := key hp2 fun _ z => nomatch z
      have nrl := key hr2 fun _ z => nomatch z
      refine ⟨_, rfl, lr, od, rfl, .inl ⟨reachK rk, upd_same, ?_⟩⟩
      refine for_keys (d := lr) (od := od) (kvs := reachK rk) (fun j σ H3 => ∃ (v5 : Option V) (rs' : List Int), σ = [some (.ref a.s), some (.ref la), some (.ref lr), some (.int x), v4, v5] ∧ H3 lr = some (.frz od (.dK (reachK rk))) ∧ Ke [a.Pp, a.Rr] H2 (upd H3 lr (.dK (reachK rk))) ∧ H3 a.s = some (.ins cSe a.dx a.flds) ∧ H3 a.Pp = some (.lst (ps'.map V.int)) ∧ H3 a.Rr = some (.lst (rs'.map V.int)) ∧ rs'.length = rs.length ∧
          ∀ h : Int, 0 ≤ h → rn rs' h = rn rs h - if h ∈ (rk.take j).map (·.1) then x else 0)
        ⟨_, rs, rfl, upd_same, ?_, by rw [upd_ne nsl]; exact hs2, by rw [upd_ne npl]; exact hp2, by rw [upd_ne nrl]; exact hr2, rfl, fun h _ => by rw [List.take_zero, if_neg (by simp)]; omega⟩ (fun j σ H3 ⟨_, _, _, h, _⟩ => h) ?_ ?_
      · have e : upd (upd H2 lr (.frz od (.dK (reachK rk)))) lr (.dK (reachK rk)) = H2 := by
          funext b
          by_cases z : b = lr
          · rw [z, upd_same, hlr2]
          · rw [upd_ne z, upd_ne z]
        rw [e]
        exact Ke.refl _ _
      · rintro j k v σ H3 hk ⟨v5, rs', rfl, hl3, k3, hs3, hp3, hr3, lr3, er3⟩
        obtain ⟨p, hp, hpe⟩ : ∃ p, rk[j]? = some p ∧ ((Sum.inl p.1 : Key), V.int (p.2 : Int)) = (k, v) := by
          unfold reachK at hk
          rw [List.getElem?_map] at hk
          exact Option.map_eq_some_iff.mp hk
        obtain ⟨rfl, rfl⟩ : Sum.inl p.1 = k ∧ V.int (p.2 : Int) = v := ⟨congrArg Prod.fst hpe, congrArg Prod.snd hpe⟩
        have hb := rin p.1 (List.mem_map.mpr ⟨p, List.mem_of_getElem? hp, rfl⟩)
        have hil : p.1.toNat < rs'.length := by rw [lr3, lrs]; omega
        have hget : (rs'.map V.int)[p.1.toNat]? = some (.int (rn rs' p.1)) := by
          unfold rn
          rw [List.getElem?_map, List.getElem?_eq_getElem hil, List.getD_eq_getElem?_getD, List.getElem?_eq_getElem hil] <;> rfl
        have etn : ((p.1.toNat : Nat) : Int) = p.1 := Int.toNat_of_nonneg hb.1
        refine ⟨_, rfl, a.s, cSe, a.dx, _, _, rfl, hs3, e_Seats.cl, n4, fld_rents a, _, rfl, a.Rr, _, p.1.toNat, _, rfl, by rw [etn] <;> rfl, sq_of hr3, hget, _, rfl, _, _, rfl, rfl, a.Rr, _, _, p.1.toNat, rfl, rfl, hr3, ?_, ?_⟩
        · have z := ixn_at (n := (rs'.map V.int).length) (j := p.1.toNat) (by rw [List.length_map]; exact hil)
          rw [etn] at z
          exact z
        rw [← List.map_set]
        refine ⟨_, rs'.set p.1.toNat (rn rs' p.1 - x), rfl, by rw [upd_ne nlrR]; exact hl3, ?_, by rw [upd_ne nsR]; exact hs3, by rw [upd_ne S.n2.2.2]; exact hp3, upd_same, by rw [List.length_set]; exact lr3, fun h h0 => ?_⟩
        · have e : upd (upd H3 a.Rr (.lst ((rs'.set p.1.toNat (rn rs' p.1 - x)).map V.int))) lr (.dK (reachK rk)) = upd (upd H3 lr (.dK (reachK rk))) a.Rr (.lst ((rs'.set p.1.toNat (rn rs' p.1 - x)).map V.int)) := by
            funext b
            by_cases z : b = lr
            · rw [z, upd_same, upd_ne nlrR, upd_same]
            · rw [upd_ne z]
              by_cases z2 : b = a.Rr
              · rw [z2, upd_same, upd_same]
              · rw [upd_ne z2, upd_ne z2, upd_ne z]
          rw [e]
          exact k3.mut (by simp)
        · have et : rk.take (j + 1) = rk.take j ++ [p] := by rw [List.take_add_one, hp] <;> rfl
          have hni : p.1 ∉ (rk.take j).map (·.1) := fun z => by
            obtain ⟨t, ht⟩ := List.mem_iff_getElem?.mp z
            have htl := (List.getElem?_eq_some_iff.mp ht).1
            rw [List.length_map, List.length_take] at htl
            rw [List.map_take] at ht
            rw [List.getElem?_take_of_lt (by omega)] at ht
            have hjl := (List.getElem?_eq_some_iff.mp hp).1
            have h1 : (rk.map (·.1))[j]? = some p.1 := by rw [List.getElem?_map, hp] <;> rfl
            have := (List.getElem?_inj (by rw [List.length_map]; exact hjl) rnd).mp (h1.trans ht.symm)
            omega
          rw [rn_set hil h0 hb.1, et, List.map_append, er3 h h0]
          by_cases e : p.1 = h
          · subst e
            rw [if_pos rfl, er3 p.1 h0, if_neg hni, if_pos (by simp)]
            omega
          · rw [if_neg e]
            have : (h ∈ (rk.take j).map (·.1) ++ [p].map (·.1)) ↔ h ∈ (rk.take j).map (·.1) := ⟨fun z => by
              rcases List.mem_append.mp z with z | z
              · exact z
              · exact absurd (List.mem_singleton.mp z).symm e, fun z => List.mem_append_left _ z⟩
            by_cases z : h ∈ (rk.take j).map (·.1)
            · rw [if_pos z, if_pos (this.mpr z)]
            · rw [if_neg z, if_neg fun y => z (this.mp y)]
      · rintro σ H3 ⟨v5, rs', rfl, hl3, k3, hs3, hp3, hr3, lr3, er3⟩
        have lrk : (reachK rk).length = rk.length := by unfold reachK; rw [List.length_map]
        rw [lrk, List.take_length] at er3
        refine ⟨hl3, ?_⟩
        have kk := k2.trans k3
        refine q _ ps' rs' kk (S.ke kk ?_ ?_) lps lr3 eps er3
        · rw [upd_ne nlrP.symm]
          exact hp3
        · rw [upd_ne nlrR.symm]
          exact hr3
end
end CH
end

section
set_option Elab.async false
set_option linter.all false
set_option maxRecDepth 100000
set_option maxHeartbeats 4000000
namespace CH
open PySem PySem.Spec PyProof.Rows L2
open GxR (TabB TabG Tabbed)
theorem reach_val {h : Int} {m : Nat} : ∀ {rk : List (Int × Nat)} {j : Nat}, (rk.map (·.1)).Nodup → rk[j]? = some (h, m) → valV (reachK rk) (Sum.inl h) = some (.int (m : Int))
  | [], j, _, e => by simp at e
  | p :: rk, 0, _, e => by
    have e' : p = (h, m) := by simpa using e
    subst e'
    unfold reachK
    rw [List.map_cons, valV_pos (p := ((Sum.inl h : Key), V.int (m : Int))) rfl]
  | p :: rk, j + 1, nd, e => by
    obtain ⟨n1, n2⟩ := List.nodup_cons.mp (show ((p.1) :: rk.map (·.1)).Nodup from nd)
    have e' : rk[j]? = some (h, m) := by simpa using e
    have ne : p.1 ≠ h := fun z => n1 (by rw [z]; exact List.mem_map.mpr ⟨(h, m), List.mem_of_getElem? e', rfl⟩)
    unfold reachK
    rw [List.map_cons, valV_neg (p := ((Sum.inl p.1 : Key), V.int (p.2 : Int))) (fun z => ne (Sum.inl.inj z))]
    exact reach_val n2 e'
theorem SeatsAt.ke2 {cSe : Addr} {H H' : Hp} {a : Sa} {rows : Rows} {hs hs' : List (Option Int)} {ps rs : List Int} {kvs kvs' : List (Key × V)} {hf hf' : Int → Option Nat} (S : SeatsAt cSe H a rows hs ps rs kvs hf) (k : Ke [a.Hh, a.Ho] H H') (hh : H' a.Hh = some (.lst (hs'.map oldV))) (ho : H' a.Ho = some (.dK kvs')) (hd : HoldD kvs' hf') :
    SeatsAt cSe H' a rows hs' ps rs kvs' hf' := by
  have n2 : ∀ {b : Addr}, b ≠ a.Hh → b ≠ a.Ho → b ∉ [a.Hh, a.Ho] := fun h1 h2 z => by
    simp only [List.mem_cons, List.not_mem_nil, or_false] at z
    rcases z with z | z
    · exact h1 z
    · exact h2 z
  have l1 : ∀ {b : Addr} {xs : List V}, H b = some (.lst xs) → b ≠ a.Ho := fun h z => by rw [z, S.ho] at h; cases h
  have l2 : ∀ {b : Addr} {u : HO}, H b = some u → (∀ xs, u ≠ .lst xs) → b ≠ a.Hh := fun h n z => by
    rw [z, S.hh] at h
    exact n _ (Option.some.inj h).symm
  have l3 : ∀ {b : Addr} {ks : List (Key × V)}, H b = some (.dK ks) → b ≠ a.Hh := fun h z => by rw [z, S.hh] at h; cases h
  have nso : a.s ≠ a.Ho := fun z => by have := S.ob; rw [z, S.ho] at this; cases this
  refine ⟨k.o _ _ (n2 (l2 S.ob fun _ z => nomatch z) nso) S.ob (fun _ z => nomatch z), k.o _ _ (n2 S.n1.1 (l1 S.hJ)) S.hJ (fun _ z => nomatch z), paired_imp_mem (fun d hdm r z => ⟨k.o _ _ (n2 (l3 z.1) fun w => S.n3 (by rw [← w]; exact hdm)) z.1 (fun _ z => nomatch z), z.2⟩) S.hd,
    hh, k.o _ _ (n2 S.n2.1.symm (l1 S.hp)) S.hp (fun _ z => nomatch z), k.o _ _ (n2 S.n2.2.1.symm (l1 S.hr)) S.hr (fun _ z => nomatch z), ho, hd, S.n1, S.n2, S.n3, S.nd⟩
section
variable {P : Program} {w : World} {K : PySem.W.Frag} {mg : Str → Option Value} {base : Heap} {c aA cc cm cSe : Addr}
abbrev st_Seats_hand_on : Stmt := inClass (top 64) 4
abbrev nm_Seats_hand_on : List Str := ["self", "hour", "reached", "meeting", "left"]
theorem sc_Seats_hand_on : FnScope nm_Seats_hand_on ["self", "hour", "reached"] (defScope st_Seats_hand_on) := C8.fnScope_by (by decide +kernel)
def sp_hand (cSe : Addr) : Sp := fun vs H Q _ => ∃ (a : Sa) (rows : Rows) (hs hs0 : List (Option Int)) (ps rs : List Int) (kvs : List (Key × V)) (hf hf0 : Int → Option Nat) (lr : Addr) (as : List Nat) (rk : List (Int × Nat)) (cur : Option Int) (j k : Nat), vs = [.ref a.s, oldV cur, .ref lr] ∧ SeatsAt cSe H a rows hs ps rs kvs hf ∧ H lr = some (.dK (reachK rk)) ∧ lr ≠ a.Ho ∧
  Way rows k hs0 ps rs as rk ∧ Hand rows k hs0 hf0 ps rs as rk hs hf cur j ∧ kvs.length + j + 1 ≤ 1000 ∧
  ∀ (H' : Hp) (hs' : List (Option Int)) (kvs' : List (Key × V)) (hf' : Int → Option Nat) (j' : Nat), Ke [a.Hh, a.Ho] H H' → SeatsAt cSe H' a rows hs' ps rs kvs' hf' → Hand rows k hs0 hf0 ps rs as rk hs' hf' none j' → kvs'.length ≤ kvs.length + j + 1 → Q .non H'
theorem ok_hand (D : MetT K cSe "hand_on" "Seats.hand_on" st_Seats_hand_on c) (e_Seats : Own K mg "Seats" cSe) (n2 : NoAttr K cSe "hours") (n5 : NoAttr K cSe "holders") : C8.Met P w K mg base 1 cSe "hand_on" (sp_hand cSe) [] := by
  refine met_of D sc_Seats_hand_on (fun _ _ _ _ _ _ us hl => match us, hl with | [_, _, _], _ => rfl) (fun vs H Q E h => ?_) (fun f A outer s H vs Q E hr h => ?_)
  · obtain ⟨a, rows, hs, hs0, ps, rs, kvs, hf, hf0, lr, as, rk, cur, j, k, rfl, _⟩ := h
    rfl
  · obtain ⟨a, rows, hs, hs0, ps, rs, kvs, hf, hf0, lr, as, rk, cur, j, k, rfl, S, hlr, nlr, W, Hd, lk, q⟩ := h
    have nd := sc_Seats_hand_on.nd
    have hu := hu_of hr
    refine ⟨_, (pss_one (ps_while PassesOwn.never (pt_cmp (pc_notN (pv 1))) (pss_cons (ps_set (i := 3) nd rfl (Or.inl rfl) (pe_dget hu (pv 2) (pv 1) (fun _ _ => rfl)))
      (pss_cons (ps_set (i := 4) nd rfl (Or.inl rfl) (pe_ix ix_list (pe_fld (pv 0) rfl) (pv 3) (fun _ _ => rfl)))
      (pss_cons (ps_asg (pv 1) (pg_sub (pe_fld (pv 0) rfl) (pv 3) set_list))
      (pss_cons (ps_dput hu (pe_fld (pv 0) rfl) (pv 1) (pv 3) rfl)
      (pss_one (ps_set (i := 1) nd rfl (Or.inl rfl) (pv 4))))))))), ?_⟩
    have nlh : lr ≠ a.Hh := fun z => by rw [z, S.hh] at hlr; cases hlr
    let nn : Option Int → Nat → Nat := fun cur j => match cur with | none => 0 | some _ => j + 1
    refine ⟨fun n σ H2 => ∃ (cur' : Option Int) (j' : Nat) (hs' : List (Option Int)) (kvs' : List (Key × V)) (hf' : Int → Option Nat) (v3 v4 : Option V), σ = [some (.ref a.s), some (oldV cur'), some (.ref lr), v3, v4] ∧ n = nn cur' j' ∧ Ke [a.Hh, a.Ho] H H2 ∧ H2 lr = some (.dK (reachK rk)) ∧ SeatsAt cSe H2 a rows hs' ps rs kvs' hf' ∧ Hand rows k hs0 hf0 ps rs as rk hs' hf' cur' j' ∧ kvs'.length + n ≤ kvs.length + j + 1,
      ⟨nn cur j, cur, j, hs, kvs, hf, none, none, rfl, rfl, Ke.refl _ _, hlr, S, Hd, by cases cur <;> simp only [nn] <;> omega⟩, ?_⟩
    rintro n σ H2 ⟨cur', j', hs', kvs', hf', v3, v4, rfl, rfl, k2, hlr2, S2, H2d, lk2⟩
    cases cur' with
    | none =>
      refine ⟨_, rfl, _, rfl, iteF ?_⟩
      exact q H2 hs' kvs' hf' j' k2 S2 H2d (by have : nn none j' = 0 := rfl; omega)
    | some h =>
      have en : nn (some h) j' = j' + 1 := rfl
      refine ⟨_, rfl, _, rfl, iteT ⟨fun σ' H' => ∃ m', m' < nn (some h) j' ∧ ∃ (cur' : Option Int) (j' : Nat) (hs' : List (Option Int)) (kvs' : List (Key × V)) (hf' : Int → Option Nat) (v3 v4 : Option V), σ' = [some (.ref a.s), some (oldV cur'), some (.ref lr), v3, v4] ∧ m' = nn cur' j' ∧ Ke [a.Hh, a.Ho] H H' ∧ H' lr = some (.dK (reachK rk)) ∧ SeatsAt cSe H' a rows hs' ps rs kvs' hf' ∧ Hand rows k hs0 hf0 ps rs as rk hs' hf' cur' j' ∧ kvs'.length + m' ≤ kvs.length + j + 1, fun _ _ h => h, ?_⟩⟩
      obtain ⟨m, hm⟩ := H2d.cur_ h rfl
      obtain ⟨hml, left, j2, hleft, lt2, H3d⟩ := Hand.step W H2d hm
      have hml2 : m < hs'.length := (List.getElem?_eq_some_iff.mp hleft).1
      refine ⟨_, rfl, _, rfl, lr, .int (m : Int), rfl, ?_, ?_⟩
      · have z := DGet.k (k := Sum.inl h) hlr2
        rw [reach_val W.keys hm] at z
        exact z
      have hget : (hs'.map oldV)[m]? = some (oldV left) := by rw [List.getElem?_map, hleft] <;> rfl
      refine ⟨_, rfl, a.s, cSe, a.dx, _, _, rfl, S2.ob, e_Seats.cl, n2, fld_hours a, _, rfl, a.Hh, _, _, oldV left, rfl, rfl, sq_of S2.hh, atI_nat hget, ?_⟩
      refine ⟨_, rfl, _, rfl, a.s, cSe, a.dx, _, _, rfl, S2.ob, e_Seats.cl, n2, fld_hours a, _, rfl, a.Hh, _, _, m, rfl, rfl, S2.hh, ixn_at (by rw [List.length_map]; exact hml2), ?_⟩
      have nHo : a.Hh ≠ a.Ho := fun z => by have := S2.ho; rw [← z, S2.hh] at this; cases this
      have ns : a.s ≠ a.Hh := fun z => by have := S2.ob; rw [z, S2.hh] at this; cases this
      have nso : a.s ≠ a.Ho := fun z => by have := S2.ob; rw [z, S2.ho] at this; cases this
      have ehs : (hs'.map oldV).set m (oldV (some h)) = (hs'.set m (some h)).map oldV := by rw [List.map_set]
      have k3 : Ke [a.Hh, a.Ho] H (upd H2 a.Hh (.lst ((hs'.map oldV).set m (oldV (some h))))) := k2.mut (by simp)
      have hlr3 : (upd H2 a.Hh (.lst ((hs'.map oldV).set m (oldV (some h))))) lr = some (.dK (reachK rk)) := by rw [upd_ne nlh]; exact hlr2
      have hs3 : (upd H2 a.Hh (.lst ((hs'.map oldV).set m (oldV (some h))))) a.s = some (.ins cSe a.dx a.flds) := by rw [upd_ne ns]; exact S2.ob
      have ho3 : (upd H2 a.Hh (.lst ((hs'.map oldV).set m (oldV (some h))))) a.Ho = some (.dK kvs') := by rw [upd_ne nHo.symm]; exact S2.ho
      have hh3 : (upd H2 a.Hh (.lst ((hs'.map oldV).set m (oldV (some h))))) a.Hh = some (.lst ((hs'.set m (some h)).map oldV)) := by rw [upd_same, ehs]
      have k23 : Ke [a.Hh, a.Ho] H2 (upd H2 a.Hh (.lst ((hs'.map oldV).set m (oldV (some h))))) := (Ke.refl _ _).mut (by simp)
      generalize upd H2 a.Hh (.lst ((hs'.map oldV).set m (oldV (some h)))) = H3 at k3 hlr3 hs3 ho3 hh3 k23 ⊢
      refine ⟨_, rfl, _, rfl, a.s, cSe, a.dx, _, _, rfl, hs3, e_Seats.cl, n5, fld_holders a, _, rfl, a.Ho, _, rfl, DPut.k (k := Sum.inl h) ho3 (lt80 (by omega)), ?_⟩
      have hd4 : HoldD (putK kvs' (Sum.inl h) (.int (m : Int))) (fun x => if x = h then some m else hf' x) := fun x => by
        rw [valV_put]
        show _ = Option.map (fun i : Nat => V.int (i : Int)) (if x = h then some m else hf' x)
        by_cases e : x = h
        · subst e
          rw [if_pos rfl, if_pos rfl]
          rfl
        · rw [if_neg fun z => e (Sum.inl.inj z), if_neg e]
          exact S2.hf_ x
      have k4 := k3.mut (u := .dK (putK kvs' (Sum.inl h) (.int (m : Int)))) (p := a.Ho) (by simp)
      have k24 := k23.mut (u := .dK (putK kvs' (Sum.inl h) (.int (m : Int)))) (p := a.Ho) (by simp)
      have lpk := length_putK kvs' (Sum.inl h) (.int (m : Int))
      refine ⟨_, rfl, nn left j2, ?_, left, j2, hs'.set m (some h), _, _, _, _, rfl, rfl, k4, by rw [upd_ne nlr]; exact hlr3, S2.ke2 k24 (by rw [upd_ne nHo]; exact hh3) upd_same hd4, H3d, ?_⟩
      · rw [en]
        cases left with
        | none => exact Nat.succ_pos _
        | some l =>
          have := lt2 (by simp)
          show j2 + 1 < j' + 1
          omega
      · cases left with
        | none =>
          show _ + 0 ≤ _
          omega
        | some l =>
          have := lt2 (by simp)
          show _ + (j2 + 1) ≤ _
          omega
end
end CH
end

section
set_option Elab.async false
set_option linter.all false
set_option maxRecDepth 100000
set_option maxHeartbeats 4000000
namespace CH
open PySem PySem.Spec PyProof.Rows L2
open GxR (TabB TabG Tabbed)
section
variable {P : Program} {w : World} {K : PySem.W.Frag} {mg : Str → Option Value} {base : Heap} {c aA : Addr}
abbrev st_copied : Stmt := top 58
abbrev nm_copied : List Str := ["field", "told", "rest", "row", "at"]
theorem sc_copied : FnScope nm_copied ["field"] (defScope st_copied) := C8.fnScope_by (by decide +kernel)
/-- a number itself -/
def sp_copied_int : Sp := fun vs H Q _ => ∃ (v : Int), vs = [.int v] ∧ Q (.int v) H
theorem ok_copied_int (D : DefT K mg "copied" st_copied c) (T : Tx K mg aA) : C8.Cal P w K mg base 1 "copied" sp_copied_int [] := by
  refine cal_of D sc_copied (fun _ _ _ _ _ _ us hl => match us, hl with | [_], _ => rfl) (fun vs H Q E h => ?_) (fun f A outer s H vs Q E hr h => ?_)
  · obtain ⟨v, rfl, _⟩ := h
    rfl
  · obtain ⟨v, rfl, q⟩ := h
    have nd := sc_copied.nd
    refine ⟨_, (pss_cons (ps_if (pt_not (pt_val (pe_callB call_isi (by rfl) T.z_isinstance (by decide +kernel) (pa_cons (pv 0) (pa_cons (pe_bltn (v := .ty "list") (by rfl) T.z_list (by decide +kernel) rfl) pa_nil))))) (pss_one (ps_ret (pv 0))) pss_nil)
      (pss_cons (ps_set (i := 1) nd rfl (Or.inl rfl) (pe_callTy call_list_of (by rfl) T.z_list (by decide +kernel) (pa_cons (pv 0) pa_nil)))
      (pss_cons (ps_set (i := 2) nd rfl (Or.inl rfl) (pe_lst (pa_cons (pv 1) pa_nil)))
      (pss_cons (ps_while PassesOwn.never (pt_truth (pv 2) (by intro _; rfl)) (pss_cons (ps_set (i := 3) nd rfl (Or.inl rfl) (pe_bm0 PySem.F.plainAttrs_list PySem.F.slot_list_pop PySem.F.type_list_pop mt_pop (pv 2)))
      (pss_one (ps_for PassesOwn.never rfl (pi_range1 (by rfl) T.z_range (pa_cons (pe_callB call_len_seq (by rfl) T.z_len PySem.boot_len (pa_cons (pv 3) pa_nil)) pa_nil)) (pg_name (i := 4) nd rfl (Or.inl rfl)) (pss_one (ps_if (pt_val (pe_callB call_isi (by rfl) T.z_isinstance (by decide +kernel) (pa_cons (pe_ix ix_list (pv 3) (pv 4) (fun _ _ => rfl)) (pa_cons (pe_bltn (v := .ty "list") (by rfl) T.z_list (by decide +kernel) rfl) pa_nil)))) (pss_cons (ps_asg (pe_callTy call_list_of (by rfl) T.z_list (by decide +kernel) (pa_cons (pe_ix ix_list (pv 3) (pv 4) (fun _ _ => rfl)) pa_nil)) (pg_sub (pv 3) (pv 4) set_list))
      (pss_one (ps_expr (pe_bm PySem.F.plainAttrs_list PySem.F.slot_list_append PySem.F.type_list_append mt_append (pv 2) (pa_cons (pe_ix ix_list (pv 3) (pv 4) (fun _ _ => rfl)) pa_nil))))) pss_nil))))))
      (pss_one (ps_ret (pv 1))))))), ?_⟩
    exact ⟨_, rfl, .int v, .ty "list", .type "int", .type "list", false, rfl, .ty _, .base (.int v), kit_ty (by decide +kernel), false, rfl, iteT ⟨_, rfl, q⟩⟩
/-- a list, new, with those within new, too -/
def sp_copied_els (K : PySem.W.Frag) : Sp := fun vs H Q _ => ∃ (a : Addr) (xs : List V) (es : List El), vs = [.ref a] ∧ SqL K H a xs ∧ Paired (El.at_ K H) xs es ∧ es.length ≤ 1000 ∧
  ∀ (H' : Hp) (r q : Addr) (ns : List V), Kx H H' → H r = none → H' r = some (.lst ns) → Cp H H' r q ns es → Q (.ref r) H'
theorem ok_copied_els (D : DefT K mg "copied" st_copied c) (T : Tx K mg aA) : C8.Cal P w K mg base 1 "copied" (sp_copied_els K) [] := by
  refine cal_of D sc_copied (fun _ _ _ _ _ _ us hl => match us, hl with | [_], _ => rfl) (fun vs H Q E h => ?_) (fun f A outer s H vs Q E hr h => ?_)
  · obtain ⟨a, xs, es, rfl, _⟩ := h
    rfl
  · obtain ⟨a, xs, es, rfl, ha, hp, h1000, q⟩ := h
    have nd := sc_copied.nd
    have len := paired_len hp
    refine ⟨_, (pss_cons (ps_if (pt_not (pt_val (pe_callB call_isi (by rfl) T.z_isinstance (by decide +kernel) (pa_cons (pv 0) (pa_cons (pe_bltn (v := .ty "list") (by rfl) T.z_list (by decide +kernel) rfl) pa_nil))))) (pss_one (ps_ret (pv 0))) pss_nil)
      (pss_cons (ps_set (i := 1) nd rfl (Or.inl rfl) (pe_callTy call_list_of (by rfl) T.z_list (by decide +kernel) (pa_cons (pv 0) pa_nil)))
      (pss_cons (ps_set (i := 2) nd rfl (Or.inl rfl) (pe_lst (pa_cons (pv 1) pa_nil)))
      (pss_cons (ps_while PassesOwn.never (pt_truth (pv 2) (by intro _; rfl)) (pss_cons (ps_set (i := 3) nd rfl (Or.inl rfl) (pe_bm0 PySem.F.plainAttrs_list PySem.F.slot_list_pop PySem.F.type_list_pop mt_pop (pv 2)))
      (pss_one (ps_for PassesOwn.never rfl (pi_range1 (by rfl) T.z_range (pa_cons (pe_callB call_len_seq (by rfl) T.z_len PySem.boot_len (pa_cons (pv 3) pa_nil)) pa_nil)) (pg_name (i := 4) nd rfl (Or.inl rfl)) (pss_one (ps_if (pt_val (pe_callB call_isi (by rfl) T.z_isinstance (by decide +kernel) (pa_cons (pe_ix ix_list (pv 3) (pv 4) (fun _ _ => rfl)) (pa_cons (pe_bltn (v := .ty "list") (by rfl) T.z_list (by decide +kernel) rfl) pa_nil)))) (pss_cons (ps_asg (pe_callTy call_list_of (by rfl) T.z_list (by decide +kernel) (pa_cons (pe_ix ix_list (pv 3) (pv 4) (fun _ _ => rfl)) pa_nil)) (pg_sub (pv 3) (pv 4) set_list))
      (pss_one (ps_expr (pe_bm PySem.F.plainAttrs_list PySem.F.slot_list_append PySem.F.type_list_append mt_append (pv 2) (pa_cons (pe_ix ix_list (pv 3) (pv 4) (fun _ _ => rfl)) pa_nil))))) pss_nil))))))
      (pss_one (ps_ret (pv 1))))))), ?_⟩
    refine ⟨_, rfl, .ref a, .ty "list", .type "list", .type "list", true, rfl, .ty _, tyx_lst ha, kit_ty (by decide +kernel), true, rfl, iteF ?_⟩
    refine ⟨_, rfl, a, _, rfl, .inl ha, fun p np => ?_⟩
    have k0 : Kx H (upd H p (.lst xs)) := Kx.new np
    have hp0 : (upd H p (.lst xs)) p = some (.lst xs) := upd_same
    generalize upd H p (.lst xs) = H1 at k0 hp0 ⊢
    refine ⟨_, rfl, (by show 1 ≤ sizeLine; decide), fun b nb => ?_⟩
    have npb : p ≠ b := ne_of_none hp0 nb
    have k1 : Kx H1 (upd H1 b (.lst [.ref p])) := Kx.new nb
    have hb1 : (upd H1 b (.lst [.ref p])) b = some (.lst [.ref p]) := upd_same
    have hp1 := k1.lst hp0
    have nbH := k0.f _ nb
    have k01 := k0.trans k1
    generalize upd H1 b (.lst [.ref p]) = H1 at k01 hb1 hp1 ⊢
    let W : Nat → L2.St → Hp → Prop := fun m σ H2 => ∃ (v3 v4 : Option V), σ = [some (.ref a), some (.ref p), some (.ref b), v3, v4] ∧ Kx H H2 ∧
      ((m = xs.length + 1 ∧ H2 p = some (.lst xs) ∧ H2 b = some (.lst [.ref p])) ∨
       (∃ (ns : List V) (us : List Addr), H2 p = some (.lst ns) ∧ H2 b = some (.lst (us.map V.ref)) ∧ Cp H H2 p b ns es ∧ m = us.length ∧ ∀ u ∈ us, V.ref u ∈ ns))
    refine ⟨W, ⟨xs.length + 1, none, none, rfl, k01, .inl ⟨rfl, hp1, hb1⟩⟩, ?_⟩
    rintro m σ H2 ⟨v3, v4, rfl, k2, ⟨rfl, hp2, hb2⟩ | ⟨ns, us, hp2, hb2, cp, rfl, hus⟩⟩
    · -- the list itself
      refine ⟨_, rfl, true, .inl ⟨_, sq_of hb2, rfl⟩, iteT ⟨fun σ' H' => ∃ m', m' < xs.length + 1 ∧ W m' σ' H', fun _ _ h => h, ?_⟩⟩
      refine ⟨_, rfl, .inl ⟨rfl, _, sq_of hb2⟩, b, _, .ref p, rfl, rfl, hb2, rfl, ?_⟩
      rw [show ([V.ref p] : List V).dropLast = [] from rfl]
      have k3 : Kx H (upd H2 b (.lst [])) := k2.mut nbH
      have hp3 : (upd H2 b (.lst [])) p = some (.lst xs) := by rw [upd_ne npb]; exact hp2
      have hb3 : (upd H2 b (.lst [])) b = some (.lst []) := upd_same
      generalize upd H2 b (.lst []) = H3 at k3 hp3 hb3 ⊢
      refine ⟨_, rfl, p, _, rfl, .inl (sq_of hp3), (xs.length : Int), rfl, by omega, by omega, for_range (lo := 0) (n := xs.length) (fun i σ H2 => ∃ (v4 : Option V) (ns : List V) (us : List Addr),
        σ = [some (.ref a), some (.ref p), some (.ref b), some (.ref p), v4] ∧ Kx H H2 ∧ H2 p = some (.lst (ns ++ xs.drop i)) ∧ H2 b = some (.lst (us.map V.ref)) ∧ Cp H H2 p b ns (es.take i) ∧ (∀ u ∈ us, V.ref u ∈ ns) ∧ us.length ≤ i ∧ ns.length = i)
        ⟨v4, [], [], rfl, k3, hp3, hb3, Cp.nil, fun u h => absurd h (by simp), Nat.le_refl _, rfl⟩ ?_ ?_⟩
      · rintro i σ H4 hi ⟨v4, ns, us, rfl, k4, hp4, hb4, cp, hus, lus, lns⟩
        have ei : (0 : Int) + (i : Int) = ((i : Nat) : Int) := Int.zero_add _
        obtain ⟨v, hv⟩ : ∃ v, xs[i]? = some v := ⟨_, List.getElem?_eq_getElem hi⟩
        obtain ⟨e, he, hve⟩ := paired_at hp hv
        have hve4 := El.at_k k4 hve
        have edrop : xs.drop i = v :: xs.drop (i + 1) := by
          rw [List.drop_eq_getElem_cons hi]
          congr 1
          rw [List.getElem?_eq_getElem hi] at hv
          exact Option.some.inj hv
        have etake : es.take (i + 1) = es.take i ++ [e] := by rw [List.take_add_one, he] <;> rfl
        have hat : (ns ++ xs.drop i)[i]? = some v := by
          rw [List.getElem?_append_right (by omega), lns, Nat.sub_self, edrop] <;> rfl
        have eset : ∀ u, (ns ++ xs.drop i).set i u = (ns ++ [u]) ++ xs.drop (i + 1) := fun u => by
          rw [List.set_append_right _ _ (by omega), lns, Nat.sub_self, edrop, List.append_assoc] <;> rfl
        have lall : (ns ++ xs.drop i).length = xs.length := by
          rw [List.length_append, List.length_drop]
          omega
        cases e with
        | inl n =>
          obtain rfl : v = .int n := hve
          refine ⟨_, rfl, _, rfl, p, _, _, .int n, rfl, rfl, sq_of hp4, by rw [ei]; exact atI_nat hat, .int n, .ty "list", .type "int", .type "list", false, rfl, .ty _, .base (.int n), kit_ty (by decide +kernel), false, rfl, iteF ?_⟩
          refine ⟨_, ns ++ [.int n], us, rfl, k4, ?_, hb4, ?_, fun u hu => List.mem_append_left _ (hus u hu), by omega, by rw [List.length_append, lns]; rfl⟩
          · rw [List.append_assoc, List.singleton_append, ← edrop]
            exact hp4
          · rw [etake]
            exact cp.snoc (e := .inl n) rfl fun t z => nomatch z
        | inr r =>
          obtain ⟨t, rfl, ht, hr1000⟩ := hve4
          refine ⟨_, rfl, _, rfl, p, _, _, .ref t, rfl, rfl, sq_of hp4, by rw [ei]; exact atI_nat hat, .ref t, .ty "list", .type "list", .type "list", true, rfl, .ty _, tyx_lst ht, kit_ty (by decide +kernel), true, rfl, iteT ?_⟩
          refine ⟨_, rfl, _, rfl, p, _, _, .ref t, rfl, rfl, sq_of hp4, by rw [ei]; exact atI_nat hat, t, _, rfl, .inl ht, fun u nu => ?_⟩
          have k5 : Kx H4 (upd H4 u (.lst (r.map V.int))) := Kx.new nu
          have hu5 : (upd H4 u (.lst (r.map V.int))) u = some (.lst (r.map V.int)) := upd_same
          have hp5 := k5.lst hp4
          have hb5 := k5.lst hb4
          have nuH := k4.f _ nu
          have cp5 : Cp H (upd H4 u (.lst (r.map V.int))) p b ns (es.take i) := cp.mono fun t' o _ _ h n => k5.o _ _ h n
          have nup : u ≠ p := (ne_of_none hp4 nu).symm
          have nub : u ≠ b := (ne_of_none hb4 nu).symm
          have k45 := k4.trans k5
          have hnu : V.ref u ∉ ns := fun z => by
            obtain ⟨j, hj⟩ := List.mem_iff_getElem?.mp z
            obtain ⟨e', _, he'⟩ := paired_at cp.pr hj
            cases e' with
            | inl n => exact nomatch (show V.ref u = V.int n from he')
            | inr r' =>
              obtain ⟨t', e1, e2, _, _⟩ := he'
              cases e1
              rw [nu] at e2
              cases e2
          generalize upd H4 u (.lst (r.map V.int)) = H5 at k45 hu5 hp5 hb5 cp5 ⊢
          refine ⟨_, rfl, _, rfl, p, _, _, i, rfl, rfl, hp5, by rw [ei, lall]; exact ixn_at hi, ?_⟩
          rw [eset]
          have hp6 : (upd H5 p (.lst ((ns ++ [.ref u]) ++ xs.drop (i + 1)))) p = some (.lst ((ns ++ [.ref u]) ++ xs.drop (i + 1))) := upd_same
          have hb6 : (upd H5 p (.lst ((ns ++ [.ref u]) ++ xs.drop (i + 1)))) b = some (.lst (us.map V.ref)) := by rw [upd_ne npb.symm]; exact hb5
          have k6 : Kx H (upd H5 p (.lst ((ns ++ [.ref u]) ++ xs.drop (i + 1)))) := k45.mut np
          have hu6 : (upd H5 p (.lst ((ns ++ [.ref u]) ++ xs.drop (i + 1)))) u = some (.lst (r.map V.int)) := by rw [upd_ne nup]; exact hu5
          have cp6 : Cp H (upd H5 p (.lst ((ns ++ [.ref u]) ++ xs.drop (i + 1)))) p b ns (es.take i) := cp5.mono fun t' o n1 _ h _ => by rw [upd_ne n1]; exact h
          generalize upd H5 p (.lst ((ns ++ [.ref u]) ++ xs.drop (i + 1))) = H6 at hp6 hb6 k6 hu6 cp6 ⊢
          have hat6 : ((ns ++ [.ref u]) ++ xs.drop (i + 1))[i]? = some (.ref u) := by
            rw [List.append_assoc, List.getElem?_append_right (by omega), lns, Nat.sub_self] <;> rfl
          refine ⟨_, rfl, .inl ⟨rfl, _, sq_of hb6⟩, _, rfl, _, rfl, p, _, _, .ref u, rfl, rfl, sq_of hp6, by rw [ei]; exact atI_nat hat6, b, _, _, rfl, rfl, hb6, by rw [List.length_map]; exact lt80 (by omega), ?_⟩
          refine ⟨_, ns ++ [.ref u], us ++ [u], rfl, k6.mut nbH, ?_, ?_, ?_, fun y hy => ?_, by rw [List.length_append]; show us.length + 1 ≤ i + 1; omega, by rw [List.length_append, lns]; rfl⟩
          · rw [upd_ne npb]
            exact hp6
          · rw [upd_same, List.map_append] <;> rfl
          · rw [etake]
            refine (cp6.mono fun t' o _ n2 h _ => by rw [upd_ne n2]; exact h).snoc (e := .inr r) ⟨u, rfl, by rw [upd_ne nub]; exact hu6, nuH, hr1000⟩ fun t' z => ?_
            cases z
            exact ⟨nup, nub, hnu⟩
          · rcases List.mem_append.mp hy with hy | hy
            · exact List.mem_append_left _ (hus y hy)
            · rw [List.mem_singleton.mp hy]
              exact List.mem_append_right _ List.mem_cons_self
      · rintro σ H4 ⟨v4, ns, us, rfl, k4, hp4, hb4, cp, hus, lus, lns⟩
        rw [List.drop_length, List.append_nil] at hp4
        rw [len, List.take_length] at cp
        exact ⟨us.length, by omega, _, v4, rfl, k4, .inr ⟨ns, us, hp4, hb4, cp, rfl, hus⟩⟩
    · -- the lists within
      by_cases hu0 : us = []
      · subst hu0
        refine ⟨_, rfl, false, .inl ⟨_, sq_of hb2, rfl⟩, iteF ?_⟩
        exact ⟨_, rfl, q H2 p b ns k2 np hp2 cp⟩
      · obtain ⟨us', u, rfl⟩ : ∃ us' u, us = us' ++ [u] := ⟨us.dropLast, us.getLast hu0, (List.dropLast_concat_getLast hu0).symm⟩
        rw [List.map_append] at hb2
        refine ⟨_, rfl, true, .inl ⟨_, sq_of hb2, by cases us' <;> rfl⟩, iteT ⟨fun σ' H' => ∃ m', m' < (us' ++ [u]).length ∧ W m' σ' H', fun _ _ h => h, ?_⟩⟩
        refine ⟨_, rfl, .inl ⟨rfl, _, sq_of hb2⟩, b, _, .ref u, rfl, rfl, hb2, by rw [List.length_append, List.length_map]; show (_ ++ [V.ref u])[us'.length + 1 - 1]? = _; rw [Nat.add_sub_cancel, List.getElem?_append_right (by rw [List.length_map]; exact Nat.le_refl _), List.length_map, Nat.sub_self] <;> rfl, ?_⟩
        rw [show (us'.map V.ref ++ [u].map V.ref).dropLast = us'.map V.ref from List.dropLast_concat]
        obtain ⟨j, hj⟩ := List.mem_iff_getElem?.mp (hus u (by simp))
        obtain ⟨e', he0, he'⟩ := paired_at cp.pr hj
        have hd := cp.d u (hus u (by simp))
        cases e' with
        | inl n => exact nomatch (show V.ref u = V.int n from he')
        | inr r =>
          obtain ⟨t', e1, e2, _, hr1000⟩ := he'
          cases e1
          have k3 : Kx H (upd H2 b (.lst (us'.map V.ref))) := k2.mut nbH
          have hp3 : (upd H2 b (.lst (us'.map V.ref))) p = some (.lst ns) := by rw [upd_ne npb]; exact hp2
          have hb3 : (upd H2 b (.lst (us'.map V.ref))) b = some (.lst (us'.map V.ref)) := upd_same
          have hu3 : (upd H2 b (.lst (us'.map V.ref))) u = some (.lst (r.map V.int)) := by rw [upd_ne hd.2]; exact e2
          have cp3 : Cp H (upd H2 b (.lst (us'.map V.ref))) p b ns es := cp.mono fun t' o _ n2 h _ => by rw [upd_ne n2]; exact h
          generalize upd H2 b (.lst (us'.map V.ref)) = H3 at k3 hp3 hb3 hu3 cp3 ⊢
          refine ⟨_, rfl, u, _, rfl, .inl (sq_of hu3), ((r.map V.int).length : Int), rfl, by rw [List.length_map]; omega, by rw [List.length_map]; omega, for_range (lo := 0) (n := (r.map V.int).length) (fun i σ H4 => ∃ (v4 : Option V),
            σ = [some (.ref a), some (.ref p), some (.ref b), some (.ref u), v4] ∧ H4 = H3) ⟨v4, rfl, rfl⟩ ?_ ?_⟩
          · rintro i σ H4 hi ⟨v4, rfl, rfl⟩
            have ei : (0 : Int) + (i : Int) = ((i : Nat) : Int) := Int.zero_add _
            rw [List.length_map] at hi
            have hat : (r.map V.int)[i]? = some (.int r[i]) := by rw [List.getElem?_map, List.getElem?_eq_getElem hi] <;> rfl
            refine ⟨_, rfl, _, rfl, u, _, _, _, rfl, rfl, sq_of hu3, by rw [ei]; exact atI_nat hat, .int r[i], .ty "list", .type "int", .type "list", false, rfl, .ty _, .base (.int _), kit_ty (by decide +kernel), false, rfl, iteF ?_⟩
            exact ⟨_, rfl, rfl⟩
          · rintro σ H4 ⟨v4, rfl, rfl⟩
            exact ⟨us'.length, by rw [List.length_append]; show _ < us'.length + 1; omega, _, v4, rfl, k3, .inr ⟨ns, us', hp3, hb3, cp3, rfl, fun y hy => hus y (List.mem_append_left _ hy)⟩⟩
end
end CH
end

section
set_option Elab.async false
set_option linter.all false
set_option maxRecDepth 100000
set_option maxHeartbeats 4000000
namespace CH
open PySem PySem.Spec PyProof.Rows L2
open GxR (TabB TabG Tabbed)
theorem Cp.ints {H0 H : Hp} {p q : Addr} {ns : List V} {zs : List Int} (h : Cp H0 H p q ns (zs.map Sum.inl)) : ns = zs.map V.int := by
  have go : ∀ {ns : List V} {zs : List Int}, Paired (El.new H0 H) ns (zs.map Sum.inl) → ns = zs.map V.int := by
    intro ns zs
    induction zs generalizing ns with
    | nil => intro h; cases h; rfl
    | cons z zs ih =>
      intro h
      cases h with
      | cons a b => rw [show _ = V.int z from a, ih b] <;> rfl
  exact go h.pr
theorem Ke.mono {S S' : List Addr} {H H' : Hp} (h : ∀ b ∈ S, b ∈ S') (k : Ke S H H') : Ke S' H H' := ⟨fun b u n => k.o b u fun z => n (h b z), fun P n => k.g P fun z => n (h P z), k.f⟩
theorem SeatsAt.kx {cSe : Addr} {H H' : Hp} {a : Sa} {rows : Rows} {hs : List (Option Int)} {ps rs : List Int} {kvs : List (Key × V)} {hf : Int → Option Nat} (S : SeatsAt cSe H a rows hs ps rs kvs hf) (k : Kx H H') : SeatsAt cSe H' a rows hs ps rs kvs hf := S.ke k.ke (k.lst S.hp) (k.lst S.hr)
/-- a new one is changed -/
theorem SeatsAt.up {cSe : Addr} {H0 H : Hp} {a : Sa} {rows : Rows} {hs hs0 : List (Option Int)} {ps rs ps0 rs0 : List Int} {kvs kvs0 : List (Key × V)} {hf hf0 : Int → Option Nat} {p : Addr} {u : HO} (S : SeatsAt cSe H a rows hs ps rs kvs hf) (S0 : SeatsAt cSe H0 a rows hs0 ps0 rs0 kvs0 hf0) (n : H0 p = none) : SeatsAt cSe (upd H p u) a rows hs ps rs kvs hf := by
  have ne : ∀ {b : Addr} {v : HO}, H0 b = some v → b ≠ p := fun h z => by rw [z, n] at h; cases h
  refine ⟨by rw [upd_ne (ne S0.ob)]; exact S.ob, by rw [upd_ne (ne S0.hJ)]; exact S.hJ, paired_imp_mem (fun d hdm r z => ⟨?_, z.2⟩) S.hd, by rw [upd_ne (ne S0.hh)]; exact S.hh, by rw [upd_ne (ne S0.hp)]; exact S.hp, by rw [upd_ne (ne S0.hr)]; exact S.hr, by rw [upd_ne (ne S0.ho)]; exact S.ho, S.hf_, S.n1, S.n2, S.n3, S.nd⟩
  obtain ⟨i, hi⟩ := List.mem_iff_getElem?.mp hdm
  obtain ⟨r, _, h, _⟩ := paired_at S0.hd hi
  rw [upd_ne (ne h)]
  exact z.1
theorem JsAt.ok {H : Hp} {ds : List Addr} {rows : Rows} (h : JsAt H ds rows) : RowsOk rows := by
  have go : ∀ i, (canAt rows i).Nodup ∧ ∀ h ∈ canAt rows i, 0 ≤ h ∧ h ≤ 11 := fun i => by
    by_cases z : i < ds.length
    · obtain ⟨r, h1, h2, h3, h4, h5⟩ := paired_at h (List.getElem?_eq_getElem z)
      obtain ⟨e, _⟩ := canAt_of h1
      rw [e]
      exact ⟨h3, h5⟩
    · have : rows[i]? = none := List.getElem?_eq_none (by have := paired_len h; omega)
      unfold canAt
      rw [List.getD_eq_getElem?_getD, this]
      exact ⟨List.nodup_nil, fun h z => absurd z (by simp)⟩
  exact ⟨fun i => (go i).1, fun i => (go i).2⟩
theorem Search.rk12 {rows : Rows} {k : Nat} {hs : List (Option Int)} {ps rs : List Int} {hf : Int → Option Nat} {as : List Nat} {rk : List (Int × Nat)} (ok : RowsOk rows) (S : Search rows k hs ps rs hf as rk) : rk.length ≤ 12 := by
  have := nodup_sub_len (us := rk.map (·.1)) (ws := (List.range 12).map fun (i : Nat) => (i : Int)) S.nd fun x hx => by
    obtain ⟨p, hp, rfl⟩ := List.mem_map.mp hx
    obtain ⟨j, hj⟩ := List.mem_iff_getElem?.mp hp
    obtain ⟨q, _, _, h3, _⟩ := S.from_ j p hj
    have := ok.in_ _ _ h3
    exact List.mem_map.mpr ⟨p.1.toNat, List.mem_range.mpr (by omega), by show ((p.1.toNat : Nat) : Int) = p.1; omega⟩
  simpa using this
theorem waysL_mem {rows : Rows} {ps rs : List Int} {keys : List Int} {as : List Nat} {row : List Int} : row ∈ waysL rows ps rs keys as ↔ ∃ i ∈ as, ∃ h ∈ canAt rows i, h ∉ keys ∧ row = [cost rows i h - pr ps i - rn rs h, h, (i : Int)] := by
  unfold waysL
  rw [List.mem_flatMap]
  constructor
  · rintro ⟨i, hi, z⟩
    obtain ⟨h, hh, rfl⟩ := List.mem_map.mp z
    obtain ⟨h1, h2⟩ := List.mem_filter.mp hh
    exact ⟨i, hi, h, h1, by simpa using h2, rfl⟩
  · rintro ⟨i, hi, h, h1, h2, rfl⟩
    exact ⟨i, hi, List.mem_map.mpr ⟨h, List.mem_filter.mpr ⟨h1, by simpa using h2⟩, rfl⟩⟩
section
variable {P : Program} {w : World} {K : PySem.W.Frag} {mg : Str → Option Value} {base : Heap} {c aA cc cm cSe cTi cMo : Addr}
abbrev st_Tight_init : Stmt := inClass (top 57) 0
abbrev nm_Tight_init : List Str := ["self", "meetings", "hours"]
theorem sc_Tight_init : FnScope nm_Tight_init ["self", "meetings", "hours"] (defScope st_Tight_init) := C8.fnScope_by (by decide +kernel)
abbrev st_Seats_seat : Stmt := inClass (top 64) 5
abbrev nm_Seats_seat : List Str := ["self", "newcomer", "asking", "reached", "ways", "step", "hour", "meeting"]
theorem sc_Seats_seat : FnScope nm_Seats_seat ["self", "newcomer"] (defScope st_Seats_seat) := C8.fnScope_by (by decide +kernel)
def sp_Tight_init (K : PySem.W.Frag) (cTi : Addr) : Sp := fun vs H Q _ => ∃ (H0 : Hp) (x dx l l2 : Addr) (ms hs : List Int), vs = [.ref x, .ref l, .ref l2] ∧ H = upd (upd H0 dx (.own x)) x (.ins cTi dx []) ∧ H0 x = none ∧ H0 dx = none ∧ dx ≠ x ∧ SqL K H0 l (ms.map V.int) ∧ SqL K H0 l2 (hs.map V.int) ∧ ms.length ≤ 1000 ∧ hs.length ≤ 1000 ∧
  ∀ (H' : Hp) (r r2 : Addr), Kx H0 H' → H' x = some (.ins cTi dx [("meetings", .ref r), ("hours", .ref r2)]) → H0 r = none → H0 r2 = none → r ≠ r2 → H' r = some (.lst (ms.map V.int)) → H' r2 = some (.lst (hs.map V.int)) → Q .non H'
theorem ok_Tight_init (D : MakT K mg "Tight" cTi "Tight.__init__" st_Tight_init c) (e_Tight : Own K mg "Tight" cTi) (n1 : NoAttr K cTi "meetings") (n2 : NoAttr K cTi "hours") (f_copied : C8.Cal P w K mg base 1 "copied" (sp_copied_els K) []) : C8.Mak P w K mg base 2 "Tight" cTi (sp_Tight_init K cTi) [] := by
  refine mak_of D sc_Tight_init (fun _ _ _ _ _ _ us hl => match us, hl with | [_, _, _], _ => rfl) (fun vs H Q E h => ?_) (fun f A outer s H vs Q E hr h => ?_)
  · obtain ⟨H0, x, dx, l, l2, ms, hs, rfl, _⟩ := h
    rfl
  · obtain ⟨H0, x, dx, l, l2, ms, hs, rfl, rfl, nx, ndx, ndxx, hl, hl2, l1000, l21000, q⟩ := h
    have nd := sc_Tight_init.nd
    have k0 : Kx H0 (upd (upd H0 dx (.own x)) x (.ins cTi dx [])) := (Kx.new ndx).mut nx
    have hx0 : (upd (upd H0 dx (.own x)) x (.ins cTi dx [])) x = some (.ins cTi dx []) := upd_same
    refine ⟨_, (pss_cons (ps_fld (pv 0) (C8.pe_c f_copied hr (by first | decide | exact hkp) (by rfl) (pa_cons (pv 1) pa_nil)) rfl)
      (pss_one (ps_fld (pv 0) (C8.pe_c f_copied hr (by first | decide | exact hkp) (by rfl) (pa_cons (pv 2) pa_nil)) rfl))), ?_⟩
    generalize upd (upd H0 dx (.own x)) x (.ins cTi dx []) = H1 at k0 hx0 ⊢
    refine ⟨_, rfl, l, _, ms.map Sum.inl, rfl, k0.l hl, at_ints _, (by rw [List.length_map]; exact l1000), fun H2 r b ns k2 nr hr2 cp => ?_⟩
    rw [cp.ints] at hr2
    have hx2 := k2.o _ _ hx0 fun ps z => nomatch z
    have nrx : r ≠ x := fun z => by rw [z, hx0] at nr; cases nr
    have k02 := k0.trans k2
    refine ⟨_, rfl, x, cTi, dx, _, rfl, hx2, e_Tight.cl, n1, (by show 0 < 1000; decide), ?_⟩
    rw [show putF ("meetings" : Str) (.ref r) [] = [(("meetings" : Str), V.ref r)] from rfl]
    have k3 : Kx H0 (upd H2 x (.ins cTi dx [("meetings", .ref r)])) := k02.mut nx
    have hx3 : (upd H2 x (.ins cTi dx [("meetings", .ref r)])) x = some (.ins cTi dx [("meetings", .ref r)]) := upd_same
    have hr3 : (upd H2 x (.ins cTi dx [("meetings", .ref r)])) r = some (.lst (ms.map V.int)) := by rw [upd_ne nrx]; exact hr2
    generalize upd H2 x (.ins cTi dx [("meetings", .ref r)]) = H3 at k3 hx3 hr3 ⊢
    refine ⟨_, rfl, l2, _, hs.map Sum.inl, rfl, k3.l hl2, at_ints _, (by rw [List.length_map]; exact l21000), fun H4 r2 b2 ns2 k4 nr4 hr4 cp4 => ?_⟩
    rw [cp4.ints] at hr4
    have hx4 := k4.o _ _ hx3 fun ps z => nomatch z
    have nrx4 : r2 ≠ x := fun z => by rw [z, hx3] at nr4; cases nr4
    have nr2 : r ≠ r2 := fun z => by rw [← z, hr3] at nr4; cases nr4
    refine ⟨_, rfl, x, cTi, dx, _, rfl, hx4, e_Tight.cl, n2, (by show 1 < 1000; decide), ?_⟩
    rw [putF_new ["meetings"] rfl (by decide +kernel)]
    refine q _ r r2 ((k3.trans k4).mut nx) upd_same (k0.f _ nr) (k3.f _ nr4) nr2 ?_ ?_
    · rw [upd_ne nrx]
      exact k4.lst hr3
    · rw [upd_ne nrx4]
      exact hr4
def sp_seat (K : PySem.W.Frag) (cSe cTi : Addr) : Sp := fun vs H Q _ => ∃ (a : Sa) (rows : Rows) (k : Nat) (hs : List (Option Int)) (ps rs : List Int) (kvs : List (Key × V)) (hf : Int → Option Nat), vs = [.ref a.s, .int (k : Int)] ∧ SeatsAt cSe H a rows hs ps rs kvs hf ∧ Seated rows k hs ps rs hf ∧ k < rows.length ∧ rows.length ≤ 6 ∧ kvs.length ≤ 20 * k ∧
  (∀ (H' : Hp) (hs' : List (Option Int)) (ps' rs' : List Int) (kvs' : List (Key × V)) (hf' : Int → Option Nat), Ke [a.Hh, a.Pp, a.Rr, a.Ho] H H' → SeatsAt cSe H' a rows hs' ps' rs' kvs' hf' → Seated rows (k + 1) hs' ps' rs' hf' → kvs'.length ≤ 20 * (k + 1) → Q .non H') ∧
  (∀ (H' : Hp) (x dx r r2 : Addr) (as ks : List Int), Ke [a.Hh, a.Pp, a.Rr, a.Ho] H H' → H' x = some (.ins cTi dx [("meetings", .ref r), ("hours", .ref r2)]) → H x = none → H r = none → H r2 = none → r ≠ r2 → H' r = some (.lst (as.map V.int)) → H' r2 = some (.lst (ks.map V.int)) →
    as.Nodup → (∀ i ∈ as, 0 ≤ i ∧ i < rows.length) → ks.length < as.length → ks.Nodup → (∀ i ∈ as, ∀ h ∈ canAt rows i.toNat, h ∈ ks) → (∀ h ∈ ks, 0 ≤ h ∧ h ≤ 11) → Q (.ref x) H')
theorem ok_seat (D : MetT K cSe "seat" "Seats.seat" st_Seats_seat c) (T : Tx K mg aA) (e_Seats : Own K mg "Seats" cSe) (n5 : NoAttr K cSe "holders") (k_Tight : C8.Mak P w K mg base 2 "Tight" cTi (sp_Tight_init K cTi) []) (m_Seats_ways : C8.Met P w K mg base 2 cSe "ways" (sp_ways K cSe) []) (m_Seats_raise_prices : C8.Met P w K mg base 1 cSe "raise_prices" (sp_raise cSe) []) (m_Seats_hand_on : C8.Met P w K mg base 1 cSe "hand_on" (sp_hand cSe) []) : C8.Met P w K mg base 4 cSe "seat" (sp_seat K cSe cTi) [] := by
  refine met_of D sc_Seats_seat (fun _ _ _ _ _ _ us hl => match us, hl with | [_, _], _ => rfl) (fun vs H Q E h => ?_) (fun f A outer s H vs Q E hr h => ?_)
  · obtain ⟨a, rows, k, hs, ps, rs, kvs, hf, rfl, _⟩ := h
    rfl
  · obtain ⟨a, rows, k, hs, ps, rs, kvs, hf, rfl, S, Sd, kl, l6, lk, q1, q2⟩ := h
    have nd := sc_Seats_seat.nd
    have hu := hu_of hr
    refine ⟨_, (pss_cons (ps_set (i := 2) nd rfl (Or.inl rfl) (pe_lst (pa_cons (pv 1) pa_nil)))
      (pss_cons (ps_set (i := 3) nd rfl (Or.inl rfl) pe_dnewK)
      (pss_one (ps_while PassesOwn.never (pt_val pe_bl) (pss_cons (ps_set (i := 4) nd rfl (Or.inl rfl) (C8.pe_mt m_Seats_ways hr (by first | decide | exact hkp) (pv 0) (pa_cons (pv 2) (pa_cons (pv 3) pa_nil))))
      (pss_cons (ps_if (pt_not (pt_truth (pv 4) (by intro _; rfl))) (pss_one (ps_ret (C8.pe_mk k_Tight hr (by first | decide | exact hkp) (by rfl) (pa_cons (pe_callB cr_sortedI (by rfl) T.z_sorted (by decide +kernel) (pa_cons (pv 2) pa_nil)) (pa_cons (pe_callB (call_sortedDI (by rfl)) (by rfl) T.z_sorted (by decide +kernel) (pa_cons (pv 3) pa_nil)) pa_nil))))) pss_nil)
      (pss_cons (ps_asg (pe_callB (cr_minT hr.units) (by rfl) T.z_min (by decide +kernel) (pa_cons (pv 4) pa_nil)) (pg_tup (by rfl) (pgs_cons (pg_name (i := 5) nd rfl (Or.inl rfl)) (pgs_cons (pg_name (i := 6) nd rfl (Or.inl rfl)) (pgs_cons (pg_name (i := 7) nd rfl (Or.inl rfl)) pgs_nil)))))
      (pss_cons (ps_expr (C8.pe_mt m_Seats_raise_prices hr (by first | decide | exact hkp) (pv 0) (pa_cons (pv 2) (pa_cons (pv 3) (pa_cons (pv 5) pa_nil)))))
      (pss_cons (ps_dput hu (pv 3) (pv 6) (pv 7) rfl)
      (pss_cons (ps_if (pt_cmp (pc_dnotin hu (pv 6) (pe_fld (pv 0) rfl))) (pss_cons (ps_expr (C8.pe_mt m_Seats_hand_on hr (by first | decide | exact hkp) (pv 0) (pa_cons (pv 6) (pa_cons (pv 3) pa_nil))))
      (pss_one (ps_ret pe_non))) pss_nil)
      (pss_one (ps_expr (pe_bm PySem.F.plainAttrs_list PySem.F.slot_list_append PySem.F.type_list_append mt_append (pv 2) (pa_cons (pe_dget hu (pe_fld (pv 0) rfl) (pv 6) (fun _ _ => rfl)) pa_nil)))))))))))))), ?_⟩
    refine ⟨_, rfl, (by show 1 ≤ sizeLine; decide), fun la nla => ?_⟩
    have k1 : Kx H (upd H la (.lst [.int (k : Int)])) := Kx.new nla
    have hla1 : (upd H la (.lst [.int (k : Int)])) la = some (.lst [.int (k : Int)]) := upd_same
    generalize upd H la (.lst [.int (k : Int)]) = H1 at k1 hla1 ⊢
    intro lr nlr
    have k2 : Kx H (upd H1 lr (.dK [])) := k1.trans (Kx.new nlr)
    have nlar : la ≠ lr := fun z => by rw [← z, hla1] at nlr; cases nlr
    have hla2 : (upd H1 lr (.dK [])) la = some (.lst [.int (k : Int)]) := by rw [upd_ne nlar]; exact hla1
    have hlr2 : (upd H1 lr (.dK [])) lr = some (.dK []) := upd_same
    have nlr0 : H lr = none := k1.f _ nlr
    generalize upd H1 lr (.dK []) = H2 at k2 hla2 hlr2 ⊢
    have ok := S.hd.ok
    let I : Nat → L2.St → Hp → Prop := fun n σ H3 => ∃ (as : List Nat) (rk : List (Int × Nat)) (ps' rs' : List Int) (v4 v5 v6 v7 : Option V), σ = [some (.ref a.s), some (.int (k:Int)), some (.ref la), some (.ref lr), v4, v5, v6, v7] ∧ n = 13 - rk.length ∧ Ke [a.Pp, a.Rr] H H3 ∧ SeatsAt cSe H3 a rows hs ps' rs' kvs hf ∧ Search rows k hs ps' rs' hf as rk ∧ H3 la = some (.lst (as.map fun (i : Nat) => V.int (i : Int))) ∧ H3 lr = some (.dK (reachK rk))
    refine ⟨I, ⟨13, [k], [], ps, rs, none, none, none, none, rfl, rfl, k2.ke, S.kx k2, Sd.start kl, hla2, hlr2⟩, ?_⟩
    rintro n σ H3 ⟨as, rk, ps', rs', v4, v5, v6, v7, rfl, rfl, k3, S3, Se, hla3, hlr3⟩
    have rk12 := Search.rk12 ok Se
    refine ⟨true, rfl, iteT ⟨fun σ' H' => ∃ m', m' < 13 - rk.length ∧ I m' σ' H', fun _ _ h => h, ?_⟩⟩
    have lad : la ∉ a.ds := fun z => by
      obtain ⟨i, hi⟩ := List.mem_iff_getElem?.mp z
      obtain ⟨r, _, h, _⟩ := paired_at S.hd hi
      rw [nla] at h
      cases h
    have lrd : lr ∉ a.ds := fun z => by
      obtain ⟨i, hi⟩ := List.mem_iff_getElem?.mp z
      obtain ⟨r, _, h, _⟩ := paired_at S.hd hi
      rw [nlr0] at h
      cases h
    have SR : SeatsR cSe H3 a rows ps' rs' := ⟨S3.ob, S3.hJ, S3.hd.jl, S3.hp, S3.hr, Se.st.l2, Se.st.l3⟩
    refine ⟨_, rfl, a.s, a.dx, a.flds, rfl, S3.ob, rfl, _, rfl, _, rfl, a, rows, ps', rs', la, lr, as, rk, rfl, SR, S3.hd, S3.nd, hla3, Se.lt, by have := Se.len; omega, hlr3, lad, lrd, fun H4 r ts k4 nr4 hr4 hts => ?_⟩
    have k34 := k3.trans k4.ke
    have S4 := S3.kx k4
    have hla4 := k4.lst hla3
    have hlr4 := k4.o _ _ hlr3 fun ps z => nomatch z
    have lts := paired_len hts
    by_cases hw : ts = []
    · subst hw
      have ew : waysL rows ps' rs' (rk.map (·.1)) as = [] := List.eq_nil_of_length_eq_zero (by rw [← lts]; rfl)
      refine ⟨_, rfl, false, .inl ⟨_, sq_of hr4, rfl⟩, iteT ?_⟩
      refine ⟨_, rfl, la, as.map (fun i : Nat => (i : Int)), rfl, by rw [List.map_map]; exact sq_of hla4, fun ms lm pm srt nlm => ?_⟩
      have k5 : Kx H4 (upd H4 lm (.lst (ms.map V.int))) := Kx.new nlm
      have hlm5 : (upd H4 lm (.lst (ms.map V.int))) lm = some (.lst (ms.map V.int)) := upd_same
      have hlr5 := k5.o _ _ hlr4 fun ps z => nomatch z
      generalize upd H4 lm (.lst (ms.map V.int)) = H5 at k5 hlm5 hlr5 ⊢
      refine ⟨_, rfl, lr, reachK rk, rk.map (·.1), rfl, .inl hlr5, by unfold reachK; rw [List.map_map, List.map_map] <;> rfl, by rw [List.length_map]; omega, fun ks l2 pk srt2 nl2 => ?_⟩
      have k6 : Kx H5 (upd H5 l2 (.lst (ks.map V.int))) := Kx.new nl2
      have hlm6 := k6.lst hlm5
      have hl26 : (upd H5 l2 (.lst (ks.map V.int))) l2 = some (.lst (ks.map V.int)) := upd_same
      generalize upd H5 l2 (.lst (ks.map V.int)) = H6 at k6 hlm6 hl26 ⊢
      refine fun x dx nx ndx nxx => ?_
      have eml : ms.length = as.length := by rw [pm.length_eq, List.length_map]
      have ekl : ks.length = rk.length := by rw [pk.length_eq, List.length_map]
      have sl := Se.len
      refine ⟨H6, x, dx, lm, l2, ms, ks, rfl, rfl, nx, ndx, nxx, sq_of hlm6, sq_of hl26, by omega, by omega, fun H7 r1 r2 k7 hx7 nr nr2 nrr hr7 hr27 => ⟨rfl, ?_⟩⟩
      have k67 := (k5.trans k6).trans k7
      have kf : Ke [a.Hh, a.Pp, a.Rr, a.Ho] H H7 := (k34.mono fun b hb => by
        simp only [List.mem_cons, List.not_mem_nil, or_false] at hb ⊢
        rcases hb with h | h
        · exact .inr (.inl h)
        · exact .inr (.inr (.inl h))).trans k67.ke
      have z0 : ∀ {b : Addr}, H6 b = none → H b = none := fun h => k34.f _ ((k5.trans k6).f _ h)
      refine q2 H7 x dx r1 r2 ms ks kf hx7 (z0 nx) (z0 nr) (z0 nr2) nrr hr7 hr27 ?_ ?_ (by omega) ?_ ?_ ?_
      · refine pm.nodup_iff.mpr ?_
        have z0 : List.Pairwise (fun x y : Nat => x ≠ y) as := Se.asnd
        show List.Pairwise (fun x y : Int => x ≠ y) (as.map fun i : Nat => (i : Int))
        rw [List.pairwise_map]
        refine List.Pairwise.imp ?_ z0
        intro x y h z
        exact h (by omega)
      · intro i hi
        obtain ⟨j, hj, rfl⟩ := List.mem_map.mp (pm.mem_iff.mp hi)
        have := Se.lt j hj
        omega
      · exact pk.nodup_iff.mpr Se.nd
      · intro i hi h hh
        obtain ⟨j, hj, rfl⟩ := List.mem_map.mp (pm.mem_iff.mp hi)
        refine Decidable.byContradiction fun z => ?_
        have : [cost rows j h - pr ps' j - rn rs' h, h, (j : Int)] ∈ waysL rows ps' rs' (rk.map (·.1)) as := waysL_mem.mpr ⟨j, hj, h, hh, fun y => z (pk.mem_iff.mpr y), rfl⟩
        rw [ew] at this
        cases this
      · intro h hh
        obtain ⟨p, hp, rfl⟩ := List.mem_map.mp (pk.mem_iff.mp hh)
        obtain ⟨j, hj⟩ := List.mem_iff_getElem?.mp hp
        obtain ⟨_, _, _, h3, _⟩ := Se.from_ j p hj
        exact ok.in_ _ _ h3
    · refine ⟨_, rfl, true, .inl ⟨_, sq_of hr4, by cases ts with | nil => exact absurd rfl hw | cons _ _ => rfl⟩, iteF ?_⟩
      refine ⟨_, rfl, r, ts, waysL rows ps' rs' (rk.map (·.1)) as, rfl, sq_of hr4, paired_imp (fun _ _ z => .inl (.inl z)) hts, hw, fun row hrow => ?_, fun j t row ht hrow hmin => ?_⟩
      · obtain ⟨_, _, _, _, _, rfl⟩ := waysL_mem.mp hrow
        exact fun z => nomatch z
      obtain ⟨i, hi, h, hc, hn, rfl⟩ := waysL_mem.mp (List.mem_of_getElem? hrow)
      obtain ⟨row', hrow', htup⟩ := paired_at hts ht
      rw [hrow] at hrow'
      have er' := Option.some.inj hrow'
      subst er'
      refine ⟨t, _, rfl, .inl (.inl htup), rfl, ?_⟩
      have hil := Se.lt i hi
      have hx0 : 0 ≤ cost rows i h - pr ps' i - rn rs' h := by
        have := Se.st.bound i hil h hc
        omega
      have hmn : ∀ i2 ∈ as, ∀ h2 ∈ canAt rows i2, h2 ∉ rk.map (·.1) → cost rows i h - pr ps' i - rn rs' h ≤ cost rows i2 h2 - pr ps' i2 - rn rs' h2 := fun i2 a1 h2 a2 a3 => hmin _ (waysL_mem.mpr ⟨i2, a1, h2, a2, a3, rfl⟩)
      generalize hx : cost rows i h - pr ps' i - rn rs' h = x at hx0 hmn ⊢
      have ne0 : ∀ {b : Addr} {v : HO} {q : Addr}, H b = some v → H q = none → q ≠ b := fun h1 h2 z => by rw [z, h1] at h2; cases h2
      have rin : ∀ h ∈ rk.map (·.1), 0 ≤ h ∧ h ≤ 11 := fun h hh => by
        obtain ⟨p, hp, rfl⟩ := List.mem_map.mp hh
        obtain ⟨j, hj⟩ := List.mem_iff_getElem?.mp hp
        obtain ⟨_, _, _, h3, _⟩ := Se.from_ j p hj
        exact ok.in_ _ _ h3
      refine ⟨_, _, rfl, _, _, rfl, _, _, rfl, rfl, ?_⟩
      refine ⟨_, rfl, a.s, a.dx, a.flds, rfl, S4.ob, rfl, _, rfl, _, rfl, _, rfl, a, rows, hs, ps', rs', kvs, hf, la, lr, as, rk, x, rfl, S4, hla4, hlr4, ne0 S.hp nla, ne0 S.hr nla, Se.asnd, Se.lt, Se.nd, rin, Se.st.l2, Se.st.l3, fun H5 ps5 rs5 k5 S5 lp5 lr5 ep er => ?_⟩
      have Se5 : Search rows k hs ps5 rs5 hf as rk := Search.raise ok Se hx0 hmn lp5 lr5 (fun i _ => ep i) er fun h2 h20 => by
        have e0 : rn rs5 h2 = rn rs5 0 := by unfold rn; rw [show h2.toNat = 0 by omega]; rfl
        have := er 0 (Int.le_refl _)
        have := Se.st.neg 0
        rw [e0]
        split at * <;> omega
      have htt : pr ps5 i + rn rs5 h = cost rows i h := by
        have := ok.in_ i h hc
        rw [ep i, if_pos hi, er h this.1, if_neg hn]
        omega
      have k35 := k34.trans k5
      have hla5 : H5 la = some (.lst (as.map fun (i : Nat) => V.int (i : Int))) := k5.o _ _ (by simp only [List.mem_cons, List.not_mem_nil, or_false, not_or]; exact ⟨ne0 S.hp nla, ne0 S.hr nla⟩) hla4 fun ps z => nomatch z
      have hlr5 : H5 lr = some (.dK (reachK rk)) := k5.o _ _ (by simp only [List.mem_cons, List.not_mem_nil, or_false, not_or]; exact ⟨ne0 S.hp nlr0, ne0 S.hr nlr0⟩) hlr4 fun ps z => nomatch z
      have lrl : (reachK rk).length = rk.length := by unfold reachK; rw [List.length_map]
      refine ⟨_, rfl, _, rfl, _, rfl, lr, _, rfl, DPut.k (k := Sum.inl h) hlr5 (lt80 (by omega)), ?_⟩
      have ep6 : putK (reachK rk) (Sum.inl h) (.int (i : Int)) = reachK (rk ++ [(h, i)]) := by
        have g : valV (reachK rk) (Sum.inl h) = none := by
          have z := reach_get (h := h) (rk := rk)
          rw [decide_eq_false hn] at z
          cases y : valV (reachK rk) (Sum.inl h) with
          | none => rfl
          | some v => rw [y] at z; cases z
        rw [putK_new _ g]
        unfold reachK
        rw [List.map_append] <;> rfl
      rw [ep6]
      have k6 : Ke [a.Pp, a.Rr] H (upd H5 lr (.dK (reachK (rk ++ [(h, i)])))) := k35.fresh nlr0
      have S6 : SeatsAt cSe (upd H5 lr (.dK (reachK (rk ++ [(h, i)])))) a rows hs ps5 rs5 kvs hf := S5.up S nlr0
      have hla6 : (upd H5 lr (.dK (reachK (rk ++ [(h, i)])))) la = some (.lst (as.map fun (i : Nat) => V.int (i : Int))) := by rw [upd_ne nlar]; exact hla5
      have hlr6 : (upd H5 lr (.dK (reachK (rk ++ [(h, i)])))) lr = some (.dK (reachK (rk ++ [(h, i)]))) := upd_same
      generalize upd H5 lr (.dK (reachK (rk ++ [(h, i)]))) = H6 at k6 S6 hla6 hlr6 ⊢
      have hget := S6.hf_ h
      refine ⟨_, rfl, _, rfl, a.s, cSe, a.dx, _, _, rfl, S6.ob, e_Seats.cl, n5, fld_holders a, a.Ho, _, rfl, DGet.k (k := Sum.inl h) S6.ho, ?_⟩
      rw [hget]
      cases hfh : hf h with
      | none =>
        refine ⟨true, rfl, iteT ?_⟩
        refine ⟨_, rfl, a.s, a.dx, a.flds, rfl, S6.ob, rfl, _, rfl, _, rfl, a, rows, hs, hs, ps5, rs5, kvs, hf, hf, lr, as, rk ++ [(h, i)], some h, rk.length, k, rfl, S6, hlr6, ne0 S.ho nlr0, Search.way Se5 hi hc hn htt, Search.hand Se5 hfh, by omega, fun H7 hs7 kvs7 hf7 j7 k7 S7 Hd7 lk7 => ?_⟩
        refine q1 H7 hs7 ps5 rs5 kvs7 hf7 ?_ S7 (Hand.done Se5.st Hd7) (by omega)
        refine Ke.trans (k6.mono fun b hb => ?_) (k7.mono fun b hb => ?_)
        · simp only [List.mem_cons, List.not_mem_nil, or_false] at hb ⊢
          rcases hb with h | h
          · exact .inr (.inl h)
          · exact .inr (.inr (.inl h))
        · simp only [List.mem_cons, List.not_mem_nil, or_false] at hb ⊢
          rcases hb with h | h
          · exact .inl h
          · exact .inr (.inr (.inr h))
      | some i2 =>
        refine ⟨false, rfl, iteF ?_⟩
        have Se7 := Search.more Se5 hi hc hn htt hfh
        refine ⟨_, rfl, .inl ⟨rfl, _, sq_of hla6⟩, _, rfl, a.s, cSe, a.dx, _, _, rfl, S6.ob, e_Seats.cl, n5, fld_holders a, _, rfl, a.Ho, .int (i2 : Int), rfl, ?_, la, _, .int (i2 : Int), rfl, rfl, hla6, lt80 (by rw [List.length_map]; have := Se.len; omega), ?_⟩
        · have z := DGet.k (k := Sum.inl h) S6.ho
          rw [hget, hfh] at z
          exact z
        have Ke7 : Ke [a.Pp, a.Rr] H (upd H6 la (.lst ((as.map fun (i : Nat) => V.int (i : Int)) ++ [.int (i2 : Int)]))) := k6.fresh nla
        refine ⟨13 - (rk ++ [(h, i)]).length, by rw [List.length_append]; show 13 - (rk.length + 1) < 13 - rk.length; omega, as ++ [i2], rk ++ [(h, i)], ps5, rs5, _, _, _, _, rfl, rfl, Ke7, S6.up S nla, Se7, ?_, by rw [upd_ne nlar.symm]; exact hlr6⟩
        rw [upd_same, List.map_append] <;> rfl
end
end CH
end

section
set_option Elab.async false
set_option linter.all false
set_option maxRecDepth 100000
set_option maxHeartbeats 4000000
namespace CH
open PySem PySem.Spec PyProof.Rows L2
open GxR (TabB TabG Tabbed)
section
variable {P : Program} {w : World} {K : PySem.W.Frag} {mg : Str → Option Value} {base : Heap} {c aA cc cm : Addr}
end
end CH
end

section
set_option Elab.async false
set_option linter.all false
set_option maxRecDepth 100000
set_option maxHeartbeats 4000000
namespace CH
open PySem PySem.Spec PyProof.Rows L2
open GxR (TabB TabG Tabbed)
theorem sql_eq {K : PySem.W.Frag} {H G : Hp} {a : Addr} {xs : List V} (e : G a = H a) (h : SqL K H a xs) : SqL K G a xs := by
  unfold SqL Rd at *
  rw [e]
  exact h
section
variable {P : Program} {w : World} {K : PySem.W.Frag} {mg : Str → Option Value} {base : Heap} {c aA cc cm cSe cTi cMo : Addr}
abbrev st_Moved_init : Stmt := inClass (top 56) 0
abbrev nm_Moved_init : List Str := ["self", "hours", "prices", "rents"]
theorem sc_Moved_init : FnScope nm_Moved_init ["self", "hours", "prices", "rents"] (defScope st_Moved_init) := C8.fnScope_by (by decide +kernel)
def sp_Moved_init (K : PySem.W.Frag) (cMo : Addr) : Sp := fun vs H Q _ => ∃ (H0 : Hp) (x dx l l2 l3 : Addr) (hs : List V) (es : List El) (ps rs : List Int), vs = [.ref x, .ref l, .ref l2, .ref l3] ∧ H = upd (upd H0 dx (.own x)) x (.ins cMo dx []) ∧ H0 x = none ∧ H0 dx = none ∧ dx ≠ x ∧ SqL K H0 l hs ∧ (∃ zs : List Int, hs = zs.map V.int) ∧ SqL K H0 l2 (ps.map V.int) ∧ SqL K H0 l3 (rs.map V.int) ∧ hs.length ≤ 1000 ∧ ps.length ≤ 1000 ∧ rs.length ≤ 1000 ∧
  ∀ (H' : Hp) (r r2 r3 : Addr), Kx H0 H' → H' x = some (.ins cMo dx [("hours", .ref r), ("prices", .ref r2), ("rents", .ref r3)]) → H0 r = none → H0 r2 = none → H0 r3 = none → r ≠ r2 ∧ r ≠ r3 ∧ r2 ≠ r3 → H' r = some (.lst hs) → H' r2 = some (.lst (ps.map V.int)) → H' r3 = some (.lst (rs.map V.int)) → Q .non H'
theorem ok_Moved_init (D : MakT K mg "Moved" cMo "Moved.__init__" st_Moved_init c) (e_Moved : Own K mg "Moved" cMo) (n1 : NoAttr K cMo "hours") (n2 : NoAttr K cMo "prices") (n3 : NoAttr K cMo "rents") (f_copied : C8.Cal P w K mg base 1 "copied" (sp_copied_els K) []) : C8.Mak P w K mg base 2 "Moved" cMo (sp_Moved_init K cMo) [] := by
  refine mak_of D sc_Moved_init (fun _ _ _ _ _ _ us hl => match us, hl with | [_, _, _, _], _ => rfl) (fun vs H Q E h => ?_) (fun f A outer s H vs Q E hr h => ?_)
  · obtain ⟨H0, x, dx, l, l2, l3, hs, es, ps, rs, rfl, _⟩ := h
    rfl
  · obtain ⟨H0, x, dx, l, l2, l3, hs, es, ps, rs, rfl, rfl, nx, ndx, ndxx, hl, ⟨zs, rfl⟩, hl2, hl3, l1000, l21000, l31000, q⟩ := h
    rw [List.length_map] at l1000
    have nd := sc_Moved_init.nd
    have k0 : Kx H0 (upd (upd H0 dx (.own x)) x (.ins cMo dx [])) := (Kx.new ndx).mut nx
    have hx0 : (upd (upd H0 dx (.own x)) x (.ins cMo dx [])) x = some (.ins cMo dx []) := upd_same
    refine ⟨_, (pss_cons (ps_fld (pv 0) (C8.pe_c f_copied hr (by first | decide | exact hkp) (by rfl) (pa_cons (pv 1) pa_nil)) rfl)
      (pss_cons (ps_fld (pv 0) (C8.pe_c f_copied hr (by first | decide | exact hkp) (by rfl) (pa_cons (pv 2) pa_nil)) rfl)
      (pss_one (ps_fld (pv 0) (C8.pe_c f_copied hr (by first | decide | exact hkp) (by rfl) (pa_cons (pv 3) pa_nil)) rfl)))), ?_⟩
    generalize upd (upd H0 dx (.own x)) x (.ins cMo dx []) = H1 at k0 hx0 ⊢
    refine ⟨_, rfl, l, _, zs.map Sum.inl, rfl, k0.l hl, at_ints _, (by rw [List.length_map]; exact l1000), fun H2 r b ns k2 nr hr2 cp => ?_⟩
    rw [cp.ints] at hr2
    have hx2 := k2.o _ _ hx0 fun ps z => nomatch z
    have nrx : r ≠ x := fun z => by rw [z, hx0] at nr; cases nr
    have k02 := k0.trans k2
    refine ⟨_, rfl, x, cMo, dx, _, rfl, hx2, e_Moved.cl, n1, (by show 0 < 1000; decide), ?_⟩
    rw [show putF ("hours" : Str) (.ref r) [] = [(("hours" : Str), V.ref r)] from rfl]
    have k3 : Kx H0 (upd H2 x (.ins cMo dx [("hours", .ref r)])) := k02.mut nx
    have hx3 : (upd H2 x (.ins cMo dx [("hours", .ref r)])) x = some (.ins cMo dx [("hours", .ref r)]) := upd_same
    have hr3 : (upd H2 x (.ins cMo dx [("hours", .ref r)])) r = some (.lst (zs.map V.int)) := by rw [upd_ne nrx]; exact hr2
    generalize upd H2 x (.ins cMo dx [("hours", .ref r)]) = H3 at k3 hx3 hr3 ⊢
    refine ⟨_, rfl, l2, _, ps.map Sum.inl, rfl, k3.l hl2, at_ints _, (by rw [List.length_map]; exact l21000), fun H4 r2 b2 ns2 k4 nr4 hr4 cp4 => ?_⟩
    rw [cp4.ints] at hr4
    have hx4 := k4.o _ _ hx3 fun ps z => nomatch z
    have nrx4 : r2 ≠ x := fun z => by rw [z, hx3] at nr4; cases nr4
    have nr2 : r ≠ r2 := fun z => by rw [← z, hr3] at nr4; cases nr4
    refine ⟨_, rfl, x, cMo, dx, _, rfl, hx4, e_Moved.cl, n2, (by show 1 < 1000; decide), ?_⟩
    rw [putF_new ["hours"] rfl (by decide +kernel)]
    rw [show ([("hours", V.ref r)] : List (Str × V)) ++ ([(("prices" : Str), V.ref r2)] : List (Str × V)) = ([("hours", .ref r), ("prices", .ref r2)] : List (Str × V)) from rfl]
    have k5 : Kx H0 (upd H4 x (.ins cMo dx [("hours", .ref r), ("prices", .ref r2)])) := (k3.trans k4).mut nx
    have hx5 : (upd H4 x (.ins cMo dx [("hours", .ref r), ("prices", .ref r2)])) x = some (.ins cMo dx [("hours", .ref r), ("prices", .ref r2)]) := upd_same
    have hr5 : (upd H4 x (.ins cMo dx [("hours", .ref r), ("prices", .ref r2)])) r = some (.lst (zs.map V.int)) := by rw [upd_ne nrx]; exact k4.lst hr3
    have hr25 : (upd H4 x (.ins cMo dx [("hours", .ref r), ("prices", .ref r2)])) r2 = some (.lst (ps.map V.int)) := by rw [upd_ne nrx4]; exact hr4
    generalize upd H4 x (.ins cMo dx [("hours", .ref r), ("prices", .ref r2)]) = H5 at k5 hx5 hr5 hr25 ⊢
    refine ⟨_, rfl, l3, _, rs.map Sum.inl, rfl, k5.l hl3, at_ints _, (by rw [List.length_map]; exact l31000), fun H6 r3 b3 ns3 k6 nr6 hr6 cp6 => ?_⟩
    rw [cp6.ints] at hr6
    have hx6 := k6.o _ _ hx5 fun ps z => nomatch z
    have nrx6 : r3 ≠ x := fun z => by rw [z, hx5] at nr6; cases nr6
    have nr13 : r ≠ r3 := fun z => by rw [← z, hr5] at nr6; cases nr6
    have nr23 : r2 ≠ r3 := fun z => by rw [← z, hr25] at nr6; cases nr6
    refine ⟨_, rfl, x, cMo, dx, _, rfl, hx6, e_Moved.cl, n3, (by show 2 < 1000; decide), ?_⟩
    rw [putF_new ["hours", "prices"] rfl (by decide +kernel)]
    refine q _ r r2 r3 ((k5.trans k6).mut nx) upd_same (k0.f _ nr) (k3.f _ nr4) (k5.f _ nr6) ⟨nr2, nr13, nr23⟩ ?_ ?_ ?_
    · rw [upd_ne nrx]
      exact k6.lst hr5
    · rw [upd_ne nrx4]
      exact k6.lst hr25
    · rw [upd_ne nrx6]
      exact hr6
/-- whether no price and rent are above a jump, one for each meeting and hour -/
def fits (rows : Rows) (ps rs : List Int) (n : Nat) : List Bool := (List.range n).flatMap fun i => (canAt rows i).map fun h => decide (pr ps i + rn rs h ≤ cost rows i h)
end
end CH
end

section
set_option Elab.async false
set_option linter.all false
set_option maxRecDepth 100000
set_option maxHeartbeats 4000000
namespace CH
open PySem PySem.Spec PyProof.Rows L2
open GxR (TabB TabG Tabbed)
/-- hours of all meetings -/
def cansL (ms : List Mt) (ws : List Wd) : List (List Int) := ms.map fun m => hoursL m ["yes"] (ansF ws)
theorem jrows_can {ms : List Mt} {olds : List (Option Int)} {ws : List Wd} (lo : olds.length = ms.length) (i : Nat) : canAt (jrows ms olds ws) i = (cansL ms ws).getD i [] ∧ (i < ms.length → ∀ h, cost (jrows ms olds ws) i h = jumpZ (olds.getD i none) h) := by
  by_cases z : i < ms.length
  · have zo : i < olds.length := by omega
    have e : (jrows ms olds ws)[i]? = some (hoursL ms[i] ["yes"] (ansF ws), olds[i]) := by
      unfold jrows
      rw [List.getElem?_map, zip_at (List.getElem?_eq_getElem z) (List.getElem?_eq_getElem zo)] <;> rfl
    obtain ⟨e1, e2⟩ := canAt_of e
    refine ⟨?_, fun _ h => ?_⟩
    · rw [e1, List.getD_eq_getElem?_getD]
      unfold cansL
      rw [List.getElem?_map, List.getElem?_eq_getElem z] <;> rfl
    · rw [e2 h, List.getD_eq_getElem?_getD, List.getElem?_eq_getElem zo] <;> rfl
  · refine ⟨?_, fun y => absurd y z⟩
    unfold canAt
    have e : (jrows ms olds ws)[i]? = none := List.getElem?_eq_none (by unfold jrows; rw [List.length_map, List.length_zip]; omega)
    have e2 : (cansL ms ws)[i]? = none := List.getElem?_eq_none (by unfold cansL; rw [List.length_map]; omega)
    rw [List.getD_eq_getElem?_getD, e, List.getD_eq_getElem?_getD, e2] <;> rfl
theorem jrows_len {ms : List Mt} {olds : List (Option Int)} {ws : List Wd} (lo : olds.length = ms.length) : (jrows ms olds ws).length = ms.length := by
  unfold jrows
  rw [List.length_map, List.length_zip]
  omega
/-- what is told to be moved, as it is looked at -/
theorem movedB_eq {ms : List Mt} {olds : List (Option Int)} {ws : List Wd} {spots ps rs : List Int} (lo : olds.length = ms.length) : movedB (cansL ms ws) olds spots ps rs =
    (decide (spots.length = ms.length ∧ ps.length = ms.length ∧ rs.length = 12) && ((decide spots.Nodup && (List.range (jrows ms olds ws).length).all fun i => decide (spots.getD i 0 ∈ canAt (jrows ms olds ws) i)) && (((rs.all fun x => decide (x ≤ 0)) && (fits (jrows ms olds ws) ps rs (jrows ms olds ws).length).all id) &&
      decide (((List.range (jrows ms olds ws).length).map fun i => cost (jrows ms olds ws) i (spots.getD i 0)).sum = ps.sum + rs.sum)))) := by
  have lc : (cansL ms ws).length = ms.length := by unfold cansL; rw [List.length_map]
  have l2 := jrows_len (ws := ws) lo
  unfold movedB
  rw [lc, l2]
  have eA : ((List.range ms.length).all fun i => decide (spots.getD i 0 ∈ canAt (jrows ms olds ws) i)) = (List.range ms.length).all fun i => decide (spots.getD i 0 ∈ (cansL ms ws).getD i []) := by
    refine congrArg (fun f => (List.range ms.length).all f) (funext fun i => ?_)
    rw [(jrows_can lo i).1]
  have eF : (fits (jrows ms olds ws) ps rs ms.length).all id = (List.range ms.length).all fun i => ((cansL ms ws).getD i []).all fun h => decide (ps.getD i 0 + rs.getD h.toNat 0 ≤ jumpZ (olds.getD i none) h) := by
    unfold fits
    rw [List.all_flatMap, Bool.eq_iff_iff, List.all_eq_true, List.all_eq_true]
    refine forall_congr' fun i => forall_congr' fun hi => ?_
    obtain ⟨e1, e2⟩ := jrows_can (ws := ws) lo i
    rw [e1, List.all_map]
    have e2 := e2 (List.mem_range.mp hi)
    have : (id ∘ fun h => decide (pr ps i + rn rs h ≤ cost (jrows ms olds ws) i h)) = fun h => decide (ps.getD i 0 + rs.getD h.toNat 0 ≤ jumpZ (olds.getD i none) h) := funext fun h => by
      show decide (pr ps i + rn rs h ≤ cost (jrows ms olds ws) i h) = _
      rw [e2 h]
      rfl
    rw [this]
  have eS : ((List.range ms.length).map fun i => cost (jrows ms olds ws) i (spots.getD i 0)) = (List.range ms.length).map fun i => jumpZ (olds.getD i none) (spots.getD i 0) := by
    refine List.map_congr_left fun i hi => ?_
    exact (jrows_can lo i).2 (List.mem_range.mp hi) _
  rw [eA, eF, eS, Bool.decide_and, Bool.decide_and]
  generalize decide (spots.length = ms.length) = b1
  generalize decide (ps.length = ms.length) = b2
  generalize decide (rs.length = 12) = b3
  generalize decide spots.Nodup = b4
  generalize (rs.all fun x => decide (x ≤ 0)) = b5
  generalize ((List.range ms.length).all fun i => decide (spots.getD i 0 ∈ (cansL ms ws).getD i [])) = b6
  generalize ((List.range ms.length).all fun i => ((cansL ms ws).getD i []).all fun h => decide (ps.getD i 0 + rs.getD h.toNat 0 ≤ jumpZ (olds.getD i none) h)) = b7
  generalize decide (((List.range ms.length).map fun i => jumpZ (olds.getD i none) (spots.getD i 0)).sum = ps.sum + rs.sum) = b8
  cases b1 <;> cases b2 <;> cases b3 <;> cases b4 <;> cases b5 <;> cases b6 <;> cases b7 <;> cases b8 <;> rfl
def itD (ns : List Int) : PyData := .tuple (ns.map PyData.int)
theorem itD_eqv (xs ys : List Int) : PyData.eqv (itD xs) (itD ys) = decide (xs = ys) := eqvAll_map int_eqv xs ys
theorem itD_dp {K : PySem.W.Frag} {H : Hp} {l : Addr} {ns : List Int} (h : SqT K H l (ns.map V.int)) : Dp K H (.ref l) (itD ns) := .tup h (ints_dp ns)
theorem itD_sh (ns : List Int) : SeqAt.shaped (itD ns) = true := by
  unfold SeqAt.shaped itD
  simp only [PyData.canLay0, ints_lay, PyData.depth, ints_depth]
  rfl
section
variable {P : Program} {w : World} {K : PySem.W.Frag} {mg : Str → Option Value} {base : Heap} {c aA cc cm cSe cTi cMo : Addr}
end
end CH
end

section
set_option Elab.async false
set_option linter.all false
set_option maxRecDepth 100000
set_option maxHeartbeats 4000000
namespace CH
open PySem PySem.Spec PyProof.Rows L2
open GxR (TabB TabG Tabbed)
theorem met_nodup {ns : List Int} : ∀ i, (met ns i).Nodup
  | 0 => List.nodup_nil
  | i + 1 => by
    rw [met_succ]
    by_cases h : ((met ns i).any (· == ns.getD i 0)) = true
    · rw [if_pos h]
      exact met_nodup i
    · rw [if_neg h]
      refine List.nodup_append.mpr ⟨met_nodup i, List.nodup_cons.mpr ⟨by simp, List.nodup_nil⟩, fun a ha b hb e => h ?_⟩
      rw [List.mem_singleton.mp hb] at e
      exact List.any_eq_true.mpr ⟨a, ha, by rw [e]; exact beq_self_eq_true _⟩
theorem dis_len {ns out : List Int} (hs : out.Pairwise (· < ·)) (hm : ∀ k : Int, k ∈ out ↔ k ∈ ns) : out.length = dis ns := by
  have nd : out.Nodup := hs.imp fun {a b} h e => by omega
  have mm : ∀ k, k ∈ met ns ns.length ↔ k ∈ ns := fun k => by
    have := (met_spec (ns := ns) ns.length (Nat.le_refl _)).1 k
    rwa [List.take_length] at this
  have a := nodup_sub_len nd fun x hx => (mm x).mpr ((hm x).mp hx)
  have b := nodup_sub_len (met_nodup (ns := ns) ns.length) fun x hx => (hm x).mpr ((mm x).mp hx)
  unfold dis
  omega
section
variable {P : Program} {w : World} {K : PySem.W.Frag} {mg : Str → Option Value} {base : Heap} {c aA cc cm cSe cTi cMo : Addr}
end
end CH
end

section
set_option Elab.async false
set_option linter.all false
set_option maxRecDepth 100000
set_option maxHeartbeats 4000000
namespace CH
open PySem PySem.Spec PyProof.Rows L2
open GxR (TabB TabG Tabbed)
theorem AllAt.moved {ms : List Mt} {olds : List (Option Int)} {ws : List Wd} {zs ps rs : List Int} (lo : olds.length = ms.length) (S : AllAt (jrows ms olds ws) zs ps rs) : movedB (cansL ms ws) olds zs ps rs = true := by
  have lr := jrows_len (ws := ws) lo
  rw [movedB_eq lo, decide_eq_true ⟨by rw [S.l1, lr], by rw [S.l2, lr], S.l3⟩, decide_eq_true S.nd, decide_eq_true S.sum, Bool.true_and, Bool.true_and, Bool.and_true, Bool.and_eq_true, Bool.and_eq_true]
  refine ⟨List.all_eq_true.mpr fun i hi => decide_eq_true (S.in_ i (List.mem_range.mp hi)), List.all_eq_true.mpr fun x hx => decide_eq_true (S.neg x hx), List.all_eq_true.mpr fun b hb => ?_⟩
  obtain ⟨i, hi, hb⟩ := List.mem_flatMap.mp hb
  obtain ⟨h, hh, rfl⟩ := List.mem_map.mp hb
  exact decide_eq_true (S.le i (List.mem_range.mp hi) h hh)
/-- meetings that have too few hours -/
structure TooFew (rows : Rows) (as ks : List Int) : Prop where
  nd : as.Nodup
  lt : ∀ i ∈ as, 0 ≤ i ∧ i < rows.length
  few : ks.length < as.length
  all_ : ∀ i ∈ as, ∀ h ∈ canAt rows i.toNat, h ∈ ks
  in_ : ∀ h ∈ ks, 0 ≤ h ∧ h ≤ 11
  l12 : ks.length ≤ 12
theorem TooFew.tight {ms : List Mt} {olds : List (Option Int)} {ws : List Wd} {as ks : List Int} (lo : olds.length = ms.length) (S : TooFew (jrows ms olds ws) as ks) : tightB (cansL ms ws) as ks = true := by
  have lc : (cansL ms ws).length = ms.length := by unfold cansL; rw [List.length_map]
  have lr := jrows_len (ws := ws) lo
  have dl := dis_le ks
  have fw := S.few
  unfold tightB
  rw [lc, decide_eq_true S.nd, decide_eq_true (by omega : dis ks < as.length), Bool.true_and, Bool.and_true, Bool.and_eq_true]
  refine ⟨List.all_eq_true.mpr fun x hx => decide_eq_true (by have := S.lt x hx; rw [lr] at this; exact this), List.all_eq_true.mpr fun x hx => List.all_eq_true.mpr fun h hh => decide_eq_true (S.all_ x hx h ?_)⟩
  rw [(jrows_can lo x.toNat).1]
  exact hh
section
variable {P : Program} {w : World} {K : PySem.W.Frag} {mg : Str → Option Value} {base : Heap} {c aA cc cm cSe cTi cMo : Addr}
abbrev st_check_meetings : Stmt := top 33
abbrev nm_check_meetings : List Str := ["meetings", "meeting"]
theorem sc_check_meetings : FnScope nm_check_meetings ["meetings"] (defScope st_check_meetings) := C8.fnScope_by (by decide +kernel)
def sp_check_meetings (K : PySem.W.Frag) (cm : Addr) : Sp := fun vs H Q _ => ∃ (a : Addr) (ms : List Mt), vs = [.ref a] ∧ MsAt K H a ms ∧ (∀ m ∈ ms, m.ok) ∧ ms.length ≤ 6 ∧ TabG H cm ∧ ∀ H', Kx H H' → Q .non H'
theorem ok_check_meetings (D : DefT K mg "check_meetings" st_check_meetings c) (T : Tx K mg aA) (f_check_meeting : C8.Cal P w K mg base 5 "check_meeting" (sp_check_meeting K cm) []) : C8.Cal P w K mg base 6 "check_meetings" (sp_check_meetings K cm) [] := by
  refine cal_of D sc_check_meetings (fun _ _ _ _ _ _ us hl => match us, hl with | [_], _ => rfl) (fun vs H Q E h => ?_) (fun f A outer s H vs Q E hr h => ?_)
  · obtain ⟨a, ms, rfl, _⟩ := h
    rfl
  · obtain ⟨a, ms, rfl, hms, mok, l6, tm, q⟩ := h
    have nd := sc_check_meetings.nd
    refine ⟨_, (pss_cons (ps_if (PW.pt (pw_or (pt_not (pt_val (pe_callB call_isi (by rfl) T.z_isinstance (by decide +kernel) (pa_cons (pv 0) (pa_cons (pe_bltn (v := .ty "list") (by rfl) T.z_list (by decide +kernel) rfl) pa_nil))))) (pw_or1 (pt_cmpR op_gt (pe_callB call_len_seq (by rfl) T.z_len PySem.boot_len (pa_cons (pv 0) pa_nil)) (C8.pe_gc (by rfl) T.c_MOST_MEETINGS) (nomark _))))) (pss_one ps_never) pss_nil)
      (pss_one (ps_for PassesOwn.never rfl (pi_list (pv 0)) (pg_name (i := 1) nd rfl (Or.inl rfl)) (pss_one (ps_expr (C8.pe_c f_check_meeting hr (by first | decide | exact hkp) (by rfl) (pa_cons (pv 1) pa_nil))))))), ?_⟩
    obtain ⟨as, hma, hmp⟩ := id hms
    have len := paired_len hmp
    refine ⟨_, rfl, .ref a, .ty "list", .type "list", .type "list", true, rfl, .ty _, tyx_lst hma, kit_ty (by decide +kernel), true, rfl, iteF ?_⟩
    refine ⟨_, rfl, a, _, rfl, .inl hma, _, _, rfl, rfl, ?_⟩
    rw [List.length_map, len]
    refine ⟨_, rfl, ?_⟩
    rw [decide_eq_false (by omega)]
    refine iteF ?_
    refine ⟨_, rfl, a, rfl, ⟨_, hma⟩, for_list (K := K) (a := a) (xs := as.map V.ref) (fun j σ H2 => ∃ v1, σ = [some (.ref a), v1] ∧ Kx H H2) ⟨none, rfl, Kx.refl H⟩ (fun j σ H2 _ ⟨_, _, h⟩ => h.l hma) ?_ ?_⟩
    · rintro j y σ H2 hj ⟨v1, rfl, k2⟩
      obtain ⟨am, ham, rfl⟩ : ∃ t, as[j]? = some t ∧ V.ref t = y := by
        rw [List.getElem?_map] at hj
        exact Option.map_eq_some_iff.mp hj
      obtain ⟨m, hm, hmat⟩ := paired_at hmp ham
      exact ⟨_, rfl, am, m, rfl, hmat.k k2, mok m (List.mem_of_getElem? hm), k2.g _ tm, fun H3 k3 => ⟨_, rfl, k2.trans k3⟩⟩
    · rintro σ H2 ⟨v1, rfl, k2⟩
      exact q H2 k2
abbrev st_check_olds : Stmt := top 34
abbrev nm_check_olds : List Str := ["olds", "many", "old"]
theorem sc_check_olds : FnScope nm_check_olds ["olds", "many"] (defScope st_check_olds) := C8.fnScope_by (by decide +kernel)
def sp_check_olds (K : PySem.W.Frag) : Sp := fun vs H Q _ => ∃ (a : Addr) (olds : List (Option Int)), vs = [.ref a, .int (olds.length : Nat)] ∧ SqL K H a (olds.map oldV) ∧ (∀ x ∈ olds, ∀ h, x = some h → 0 ≤ h ∧ h ≤ 11) ∧ olds.length ≤ 1000 ∧ Q .non H
theorem ok_check_olds (D : DefT K mg "check_olds" st_check_olds c) (T : Tx K mg aA) (f_is_hour : C8.Cal P w K mg base 3 "is_hour" sp_is_hour []) : C8.Cal P w K mg base 4 "check_olds" (sp_check_olds K) [] := by
  refine cal_of D sc_check_olds (fun _ _ _ _ _ _ us hl => match us, hl with | [_, _], _ => rfl) (fun vs H Q E h => ?_) (fun f A outer s H vs Q E hr h => ?_)
  · obtain ⟨a, olds, rfl, _⟩ := h
    rfl
  · obtain ⟨a, olds, rfl, ha, ho, l1000, q⟩ := h
    have nd := sc_check_olds.nd
    refine ⟨_, (pss_cons (ps_if (PW.pt (pw_or (pt_not (pt_val (pe_callB call_isi (by rfl) T.z_isinstance (by decide +kernel) (pa_cons (pv 0) (pa_cons (pe_bltn (v := .ty "list") (by rfl) T.z_list (by decide +kernel) rfl) pa_nil))))) (pw_or1 (pt_cmpR op_ne (pe_callB call_len_seq (by rfl) T.z_len PySem.boot_len (pa_cons (pv 0) pa_nil)) (pv 1) (nomark _))))) (pss_one ps_never) pss_nil)
      (pss_one (ps_for PassesOwn.never rfl (pi_list (pv 0)) (pg_name (i := 2) nd rfl (Or.inl rfl)) (pss_one (ps_if (PW.pt (pw_and (pt_cmp (pc_notN (pv 2))) (pw_and1 (pt_not (pt_val (C8.pe_c f_is_hour hr (by first | decide | exact hkp) (by rfl) (pa_cons (pv 2) pa_nil))))))) (pss_one ps_never) pss_nil))))), ?_⟩
    refine ⟨_, rfl, .ref a, .ty "list", .type "list", .type "list", true, rfl, .ty _, tyx_lst ha, kit_ty (by decide +kernel), true, rfl, iteF ?_⟩
    refine ⟨_, rfl, a, _, rfl, .inl ha, ?_⟩
    rw [List.length_map]
    refine ⟨_, rfl, rfl, _, rfl, ?_⟩
    rw [decide_eq_true rfl]
    refine iteF ?_
    refine ⟨_, rfl, a, rfl, ⟨_, ha⟩, for_list (K := K) (a := a) (xs := olds.map oldV) (fun j σ H2 => ∃ v2, σ = [some (.ref a), some (.int (olds.length : Nat)), v2] ∧ H2 = H) ⟨none, rfl, rfl⟩ (fun j σ H2 _ ⟨_, _, h⟩ => h ▸ ha) ?_ ?_⟩
    · rintro j y σ H2 hj ⟨v2, rfl, rfl⟩
      obtain ⟨x, hx, rfl⟩ : ∃ t, olds[j]? = some t ∧ oldV t = y := by
        rw [List.getElem?_map] at hj
        exact Option.map_eq_some_iff.mp hj
      cases x with
      | none => exact ⟨_, rfl, _, rfl, iteF (iteF ⟨_, rfl, rfl⟩)⟩
      | some h =>
        refine ⟨_, rfl, _, rfl, iteT ⟨_, rfl, h, rfl, ?_⟩⟩
        rw [decide_eq_true (ho _ (List.mem_of_getElem? hx) h rfl)]
        exact ⟨true, rfl, iteF ⟨_, rfl, rfl⟩⟩
    · rintro σ H2 ⟨v2, rfl, rfl⟩
      exact q
abbrev st_table : Stmt := top 65
abbrev nm_table : List Str := ["words", "meetings", "olds", "known", "seats", "newcomer", "tight"]
theorem sc_table : FnScope nm_table ["words", "meetings", "olds"] (defScope st_table) := C8.fnScope_by (by decide +kernel)
def sp_table (K : PySem.W.Frag) (cm cc cMo cTi : Addr) : Sp := fun vs H Q _ => ∃ (l a o : Addr) (ws : List Wd) (ms : List Mt) (olds : List (Option Int)), vs = [.ref l, .ref a, .ref o] ∧ WsAt K H l ws ∧ ws.length ≤ 80 ∧ (∀ x ∈ ws, x.ok) ∧ Alike ws ∧ MsAt K H a ms ∧ (∀ m ∈ ms, m.ok) ∧ ms.length ≤ 6 ∧ SqL K H o (olds.map oldV) ∧ olds.length = ms.length ∧ (∀ x ∈ olds, ∀ h, x = some h → 0 ≤ h ∧ h ≤ 11) ∧ TabG H cm ∧ TabG H cc ∧
  (∀ (H' : Hp) (x dx r r2 r3 : Addr) (zs ps rs : List Int), Kx H H' → H x = none → H r = none → H r2 = none → H r3 = none → r ≠ r2 ∧ r ≠ r3 ∧ r2 ≠ r3 → H' x = some (.ins cMo dx [("hours", .ref r), ("prices", .ref r2), ("rents", .ref r3)]) → H' r = some (.lst (zs.map V.int)) → H' r2 = some (.lst (ps.map V.int)) → H' r3 = some (.lst (rs.map V.int)) → AllAt (jrows ms olds ws) zs ps rs → Q (.ref x) H') ∧
  (∀ (H' : Hp) (x dx r r2 : Addr) (as ks : List Int), Kx H H' → H x = none → H r = none → H r2 = none → r ≠ r2 → H' x = some (.ins cTi dx [("meetings", .ref r), ("hours", .ref r2)]) → H' r = some (.lst (as.map V.int)) → H' r2 = some (.lst (ks.map V.int)) → TooFew (jrows ms olds ws) as ks → Q (.ref x) H')
theorem ok_table (D : DefT K mg "table" st_table c) (T : Tx K mg aA) (e_Seats : Own K mg "Seats" cSe) (s2 : NoAttr K cSe "hours") (s3 : NoAttr K cSe "prices") (s4 : NoAttr K cSe "rents") (f_checked_words : C8.Cal P w K mg base 6 "checked_words" (sp_checked_words0 K) []) (f_check_meetings : C8.Cal P w K mg base 6 "check_meetings" (sp_check_meetings K cm) []) (f_check_olds : C8.Cal P w K mg base 4 "check_olds" (sp_check_olds K) []) (f_jumps_of : C8.Cal P w K mg base 4 "jumps_of" (sp_jumps_of K cc) [])
    (k_Seats : C8.Mak P w K mg base 1 "Seats" cSe (sp_Seats_init cSe) []) (m_Seats_seat : C8.Met P w K mg base 4 cSe "seat" (sp_seat K cSe cTi) []) (k_Moved : C8.Mak P w K mg base 2 "Moved" cMo (sp_Moved_init K cMo) []) : C8.Cal P w K mg base 7 "table" (sp_table K cm cc cMo cTi) [] := by
  refine cal_of D sc_table (fun _ _ _ _ _ _ us hl => match us, hl with | [_, _, _], _ => rfl) (fun vs H Q E h => ?_) (fun f A outer s H vs Q E hr h => ?_)
  · obtain ⟨l, a, o, ws, ms, olds, rfl, _⟩ := h
    rfl
  · obtain ⟨l, a, o, ws, ms, olds, rfl, hw, h80, wok, al, hms, mok, l6, ho, lo, oin, tm, tc, q1, q2⟩ := h
    have nd := sc_table.nd
    refine ⟨_, (pss_cons (ps_set (i := 3) nd rfl (Or.inl rfl) (C8.pe_c f_checked_words hr (by first | decide | exact hkp) (by rfl) (pa_cons (pv 0) pa_nil)))
      (pss_cons (ps_expr (C8.pe_c f_check_meetings hr (by first | decide | exact hkp) (by rfl) (pa_cons (pv 1) pa_nil)))
      (pss_cons (ps_expr (C8.pe_c f_check_olds hr (by first | decide | exact hkp) (by rfl) (pa_cons (pv 2) (pa_cons (pe_callB call_len_seq (by rfl) T.z_len PySem.boot_len (pa_cons (pv 1) pa_nil)) pa_nil))))
      (pss_cons (ps_set (i := 4) nd rfl (Or.inl rfl) (C8.pe_mk k_Seats hr (by first | decide | exact hkp) (by rfl) (pa_cons (C8.pe_c f_jumps_of hr (by first | decide | exact hkp) (by rfl) (pa_cons (pv 3) (pa_cons (pv 1) (pa_cons (pv 2) pa_nil)))) pa_nil)))
      (pss_cons (ps_for PassesOwn.never rfl (pi_range1 (by rfl) T.z_range (pa_cons (pe_callB call_len_seq (by rfl) T.z_len PySem.boot_len (pa_cons (pv 1) pa_nil)) pa_nil)) (pg_name (i := 5) nd rfl (Or.inl rfl)) (pss_cons (ps_set (i := 6) nd rfl (Or.inl rfl) (C8.pe_mt m_Seats_seat hr (by first | decide | exact hkp) (pv 4) (pa_cons (pv 5) pa_nil)))
      (pss_one (ps_if (pt_cmp (pc_notN (pv 6))) (pss_one (ps_ret (pv 6))) pss_nil))))
      (pss_one (ps_ret (C8.pe_mk k_Moved hr (by first | decide | exact hkp) (by rfl) (pa_cons (pe_fld (pv 4) rfl) (pa_cons (pe_fld (pv 4) rfl) (pa_cons (pe_fld (pv 4) rfl) pa_nil))))))))))), ?_⟩
    refine ⟨_, rfl, l, ws, rfl, hw, h80, wok, al, fun H1 r1 ts us k1 nr1 hr1 ht1 once => ?_⟩
    have lu : us.length ≤ 200 := by
      have := once_len once
      omega
    have alu : Alike us := fun a ha b hb => al a ((once.mem a).mp ha) b ((once.mem b).mp hb)
    have ea : ansW us = ansW ws := funext fun p => funext fun x => isAns_uniq al (isAns_once once (ansW_is us p x)) (ansW_is ws p x)
    refine ⟨_, rfl, a, ms, rfl, hms.k k1, mok, l6, k1.g _ tm, fun H2 k2 => ?_⟩
    have k12 := k1.trans k2
    obtain ⟨as, hma, hmp⟩ := hms.k k12
    have len := paired_len hmp
    refine ⟨_, rfl, _, rfl, a, _, rfl, .inl hma, ?_⟩
    rw [List.length_map, len]
    refine ⟨o, olds, by rw [lo] <;> rfl, k12.l ho, oin, by omega, ?_⟩
    refine ⟨_, rfl, _, rfl, _, rfl, r1, a, o, ts, us, ws, ms, olds, rfl, sq_of (k2.lst hr1), ht1.k k2, lu, alu, ea, hms.k k12, mok, by omega, k12.l ho, lo, k12.g _ tc, fun H3 J ds k3 nJ hJ hds ndd fds => ?_⟩
    have k13 := k12.trans k3
    have lrw := jrows_len (ws := ws) lo
    generalize jrows ms olds ws = rows at q1 q2 hds lrw
    have rok := hds.ok
    refine fun x dx nx ndx nxx => ?_
    refine ⟨H3, x, dx, J, ds, rows, rfl, rfl, nx, ndx, nxx, hJ, hds, ndd, by omega, fun H4 sa k4 es eds f1 f2 f3 f4 S4 => ⟨rfl, ?_⟩⟩
    subst es
    have k04 := k13.trans k4
    have free : ∀ b ∈ [sa.Hh, sa.Pp, sa.Rr, sa.Ho], H b = none := fun b hb => by
      simp only [List.mem_cons, List.not_mem_nil, or_false] at hb
      rcases hb with rfl | rfl | rfl | rfl
      · exact k13.f _ f1
      · exact k13.f _ f2
      · exact k13.f _ f3
      · exact k13.f _ f4
    have hma4 := (k3.trans k4).l hma
    refine ⟨_, rfl, a, _, rfl, .inl hma4, ?_⟩
    rw [List.length_map, len, ← lrw]
    have l6' : rows.length ≤ 6 := by omega
    have hbig : (rows.length : Int) < 2 ^ 62 := by
      have : (2 : Int) ^ 62 = 4611686018427387904 := by decide
      omega
    have hsmall : -2 ^ 62 ≤ (rows.length : Int) := by
      have : (2 : Int) ^ 62 = 4611686018427387904 := by decide
      omega
    refine ⟨(rows.length : Nat), rfl, hsmall, hbig, for_range (lo := 0) (n := rows.length) (fun i σ Hn => ∃ (v5 v6 : Option V) (hs : List (Option Int)) (ps rs : List Int) (kvs : List (Key × V)) (hf : Int → Option Nat), σ = [some (.ref l), some (.ref a), some (.ref o), some (.ref r1), some (.ref sa.s), v5, v6] ∧ Kx H Hn ∧ SeatsAt cSe Hn sa rows hs ps rs kvs hf ∧ Seated rows i hs ps rs hf ∧ kvs.length ≤ 20 * i)
      ⟨none, none, _, _, _, _, _, rfl, k04, S4, Seated.zero rows, Nat.zero_le _⟩ ?_ ?_⟩
    · rintro i σ Hn hi ⟨v5, v6, hs, ps, rs, kvs, hf, rfl, kn, Sn, Sd, lk⟩
      refine ⟨_, rfl, sa.s, sa.dx, sa.flds, rfl, Sn.ob, rfl, _, rfl, sa, rows, i, hs, ps, rs, kvs, hf, by rw [Int.zero_add] <;> rfl, Sn, Sd, hi, by omega, lk, fun H' hs' ps' rs' kvs' hf' ke S' Sd' lk' => ?_, fun H' x2 dx2 r r2 as ks ke hx2 nx2 nr nr2 nrr hr hr2 a1 a2 a3 a4 a5 a6 => ?_⟩
      · refine ⟨_, rfl, _, rfl, iteF ?_⟩
        exact ⟨_, _, hs', ps', rs', kvs', hf', rfl, Ke.kx kn ke free, S', Sd', lk'⟩
      · refine ⟨_, rfl, _, rfl, iteT ?_⟩
        have l12 := nodup_sub_len (us := ks) (ws := (List.range 12).map fun (i : Nat) => (i : Int)) a4 fun x hx => by
          have := a6 x hx
          exact List.mem_map.mpr ⟨x.toNat, List.mem_range.mpr (by omega), by show ((x.toNat : Nat) : Int) = x; omega⟩
        exact ⟨_, rfl, q2 H' x2 dx2 r r2 as ks (Ke.kx kn ke free) (kn.f _ nx2) (kn.f _ nr) (kn.f _ nr2) nrr hx2 hr hr2 ⟨a1, a2, a3, a5, a6, by simpa using l12⟩⟩
    · rintro σ Hn ⟨v5, v6, hs, ps, rs, kvs, hf, rfl, kn, Sn, Sd, lk⟩
      obtain ⟨zs, rfl, aa⟩ := Sd.all rok
      have hh := Sn.hh
      rw [List.map_map, show (oldV ∘ some) = V.int from rfl] at hh
      refine ⟨_, rfl, sa.s, cSe, sa.dx, _, _, rfl, Sn.ob, e_Seats.cl, s2, fld_hours sa, _, rfl, sa.s, cSe, sa.dx, _, _, rfl, Sn.ob, e_Seats.cl, s3, fld_prices sa, _, rfl, sa.s, cSe, sa.dx, _, _, rfl, Sn.ob, e_Seats.cl, s4, fld_rents sa, fun y dy ny ndy nyy => ?_⟩
      have m1 := aa.l1
      have m2 := aa.l2
      have m3 := aa.l3
      refine ⟨Hn, y, dy, sa.Hh, sa.Pp, sa.Rr, zs.map V.int, [], ps, rs, rfl, rfl, ny, ndy, nyy, sq_of hh, ⟨zs, rfl⟩, sq_of Sn.hp, sq_of Sn.hr, by rw [List.length_map]; omega, by omega, by omega, fun H' r r2 r3 kk hx nr nr2 nr3 nrs hr hr2 hr3 => ⟨rfl, ?_⟩⟩
      exact q1 H' y dy r r2 r3 zs ps rs (kn.trans kk) (kn.f _ ny) (kn.f _ nr) (kn.f _ nr2) (kn.f _ nr3) nrs hx hr hr2 hr3 aa
end
end CH
end

section
set_option Elab.async false
set_option linter.all false
set_option maxRecDepth 100000
set_option maxHeartbeats 4000000
namespace CH
open PySem PySem.Spec PyProof.Rows L2
open GxR (TabB TabG Tabbed)
/-- whether it is so; a table grows -/
def sp_thG (f : Th → Bool) (cm : Addr) : Sp := fun vs H Q _ => ∃ (d : Th) (v : V), vs = [v] ∧ At H d v ∧ TabG H cm ∧ ∀ H', Kx H H' → Q (.bl (f d)) H'
/-- refused where it is not so -/
def sp_chk (f : Th → Bool) (C cm : Addr) : Sp := fun vs H Q E => ∃ (d : Th) (v : V), vs = [v] ∧ At H d v ∧ TabG H cm ∧ (f d = true → ∀ H', Kx H H' → Q .non H') ∧ (f d = false → ∀ H', Kx H H' → E (.ref C) none H')
def sp_ck (f : Th → Bool) (C : Addr) : Sp := fun vs H Q E => ∃ (d : Th) (v : V), vs = [v] ∧ At H d v ∧ (f d = true → Q .non H) ∧ (f d = false → E (.ref C) none H)
theorem inV_ints {ps : List Int} {x : Int} : inV (.int x) (ps.map V.int) = decide (x ∈ ps) := inV_int ps
theorem thInts {H : Hp} : ∀ {ds : List Th} {ys : List V} {ns : List Int}, Ats H ds ys → ds = ns.map Th.int → ys = ns.map V.int
  | [], _, [], h, _ => h
  | _ :: _, _, n :: ns, ⟨v, vs, e, a, t⟩, h => by
    cases h
    rw [e, show v = V.int n from a, thInts t rfl] <;> rfl
  | [], _, _ :: _, _, h => by cases h
  | _ :: _, _, [], _, h => by cases h
section
variable {P : Program} {w : World} {K : PySem.W.Frag} {mg : Str → Option Value} {base : Heap} {c aA cm cM : Addr}
theorem okT_is_people (D : DefT K mg "is_people" st_is_people c) (T : Tx K mg aA) (f_is_number : C8.Cal P w K mg base 2 "is_number" sp_numT []) : C8.Cal P w K mg base 3 "is_people" (sp_th peopleB) [] := by
  refine cal_of D sc_is_people (fun _ _ _ _ _ _ us hl => match us, hl with | [_], _ => rfl) (fun vs H Q E h => len_th h) (fun f A outer s H vs Q E hr h => ?_)
  obtain ⟨d, v, rfl, hv, q⟩ := h
  have nd := sc_is_people.nd
  refine ⟨_, (pss_cons (ps_if (pt_not (pt_val (pe_callB call_isi (by rfl) T.z_isinstance (by decide +kernel) (pa_cons (pv 0) (pa_cons (pe_bltn (v := .ty "tuple") (by rfl) T.z_tuple (by decide +kernel) rfl) pa_nil))))) (pss_one (ps_ret pe_bl)) pss_nil)
      (pss_cons (ps_set (i := 1) nd rfl (Or.inl rfl) (pe_un un_neg pe_int))
      (pss_cons (ps_for PassesOwn.never rfl (pi_tup (pv 0)) (pg_name (i := 2) nd rfl (Or.inl rfl)) (pss_cons (ps_if (pt_not (pt_val (C8.pe_c f_is_number hr (by first | decide | exact hkp) (by rfl) (pa_cons (pv 2) (pa_cons (pe_op op_add (pv 1) pe_int) (pa_cons (pe_op op_sub (C8.pe_gc (by rfl) T.c_PEOPLE) pe_int) pa_nil)))))) (pss_one (ps_ret pe_bl)) pss_nil)
      (pss_one (ps_set (i := 1) nd rfl (Or.inl rfl) (pv 2)))))
      (pss_one (ps_ret pe_bl))))), ?_⟩
  refine ⟨_, rfl, v, .ty "tuple", _, .type "tuple", d.isT, rfl, .ty _, hv.ty, kitT K d, _, rfl, ?_⟩
  cases hT : d.isT with
  | false =>
    rw [peopleB_not hT] at q
    exact iteT q
  | true =>
    obtain ⟨ds, rfl⟩ := isT_tup hT
    obtain ⟨a, ys, rfl, ha, hy⟩ := hv
    have q : Q (.bl (riseB (-1) ds)) H := q
    refine iteF ⟨1, rfl, ?_⟩
    refine ⟨_, rfl, a, rfl, ⟨_, st_of ha⟩, for_tup (K := K) (a := a) (xs := ys) (fun i σ H2 => ∃ (v2 : Option V), σ = [some (.ref a), some (.int (lastI (-1) (ds.take i))), v2] ∧ H2 = H ∧ riseB (-1) (ds.take i) = true)
      ⟨none, rfl, rfl, rfl⟩ (fun i σ H2 _ h => ?_) ?_ ?_⟩
    · obtain ⟨_, _, rfl, _⟩ := h
      exact st_of ha
    · rintro i y σ H2 hi ⟨v2, rfl, rfl, hb⟩
      obtain ⟨e, he, hey⟩ := hy.at hi
      have e1 : ds.take (i + 1) = ds.take i ++ [e] := by rw [List.take_add_one, he] <;> rfl
      have er := rise_snoc (ds := ds.take i) (b := -1) (d := e)
      rw [hb, Bool.true_and, ← e1] at er
      refine ⟨_, rfl, _, rfl, _, _, rfl, rfl, _, _, rfl, rfl, e, y, _, 7, rfl, hey, _, rfl, ?_⟩
      show if (!numB e (lastI (-1) (ds.take i) + 1) 7) = true then _ else _
      rw [← er]
      cases hn : riseB (-1) (ds.take (i + 1)) with
      | false =>
        refine iteT ?_
        have z := rise_pre (es := ds.drop (i + 1)) hn
        rw [List.take_append_drop] at z
        rw [z] at q
        exact q
      | true =>
        refine iteF ⟨_, rfl, ?_⟩
        rw [hn] at er
        obtain ⟨x, rfl, _, _⟩ := numB_int er.symm
        obtain rfl : y = .int x := hey
        refine ⟨some (.int x), ?_, rfl, rfl⟩
        rw [e1, lastI_snoc] <;> rfl
    · rintro σ H2 ⟨v2, rfl, rfl, hb⟩
      rw [show ds.take ys.length = ds by rw [hy.len, List.take_length]] at hb
      rw [hb] at q
      exact q
theorem okT_is_meeting (D : DefT K mg "is_meeting" st_is_meeting c) (TB : TabB base mg c cm) (T : Tx K mg aA) (f_is_number : C8.Cal P w K mg base 2 "is_number" sp_numT []) (f_is_people : C8.Cal P w K mg base 3 "is_people" (sp_th peopleB) []) :
    C8.Cal P w K mg base 4 "is_meeting" (sp_thG meetB cm) [] := by
  refine cal_of D sc_is_meeting (fun _ _ _ _ _ _ us hl => match us, hl with | [_], _ => rfl) (fun vs H Q E h => ?_) (fun f A outer s H vs Q E hr h => ?_)
  · obtain ⟨d, v, rfl, _⟩ := h
    rfl
  obtain ⟨d, v, rfl, hv, tg, q⟩ := h
  have nd := sc_is_meeting.nd
  have hcode : (cxOf CX0 P w K mg base nm_is_meeting "is_meeting" (defScope st_is_meeting) f (.ref c) A outer s H E).nox.env.code = .ref c := rfl
  refine ⟨_, (pss_cons (ps_if (PW.pt (pw_or (pt_not (pt_val (pe_callB call_isi (by rfl) T.z_isinstance (by decide +kernel) (pa_cons (pv 0) (pa_cons (pe_bltn (v := .ty "tuple") (by rfl) T.z_tuple (by decide +kernel) rfl) pa_nil))))) (pw_or1 (pt_cmpR op_ne (pe_callB call_len_seq (by rfl) T.z_len PySem.boot_len (pa_cons (pv 0) pa_nil)) pe_int (nomark _))))) (pss_one (ps_ret pe_bl)) pss_nil)
      (pss_cons (ps_asg (pv 0) (pg_tup (by rfl) (pgs_cons (pg_name (i := 1) nd rfl (Or.inr rfl)) (pgs_cons (pg_name (i := 2) nd rfl (Or.inl rfl)) (pgs_cons (pg_name (i := 3) nd rfl (Or.inl rfl)) pgs_nil)))))
      (pss_cons (ps_if (PW.pt (pw_or (pt_not (pt_val (C8.pe_c f_is_people hr (by first | decide | exact hkp) (by rfl) (pa_cons (pv 1) pa_nil)))) (pw_or1 (pt_not (pt_val (C8.pe_c f_is_number hr (by first | decide | exact hkp) (by rfl) (pa_cons (pv 2) (pa_cons pe_int (pa_cons (pe_callB call_len_seq (by rfl) T.z_len PySem.boot_len (pa_cons (pv 1) pa_nil)) pa_nil))))))))) (pss_one (ps_ret pe_bl)) pss_nil)
      (pss_one (ps_ret (pe_and (C8.pe_c f_is_people hr (by first | decide | exact hkp) (by rfl) (pa_cons (pv 3) pa_nil)) (pe_one (pe_allG hr (by rfl) T.z_all (by decide +kernel) TB hcode (gnS_by (sc := defScope st_is_meeting) (by decide +kernel)) (pv 3) (elt_in (y := "people") (j := 1) (gnS_by (sc := defScope st_is_meeting) (by decide +kernel)) rfl (by decide +kernel) (show (defScope st_is_meeting).names.lookup ("people" : Str) = some .cell by decide +kernel)) (fun _ => rfl))))))))), ?_⟩
  have q0 : meetB d = false → Q (.bl false) H := fun z => by
    have := q H (Kx.refl H)
    rw [z] at this
    exact this
  refine ⟨_, rfl, v, .ty "tuple", _, .type "tuple", d.isT, rfl, .ty _, hv.ty, kitT K d, _, rfl, ?_⟩
  cases hT : d.isT with
  | false => exact iteT (q0 (meetB_not hT))
  | true =>
    obtain ⟨ds, rfl⟩ := isT_tup hT
    obtain ⟨a, ys, rfl, ha, hy⟩ := hv
    refine iteF ⟨_, rfl, a, _, rfl, .inr (st_of ha), rfl, _, rfl, ?_⟩
    by_cases l : ds.length = 3
    case neg =>
      rw [neI (show ((ys.length : Nat) : Int) ≠ 3 by rw [hy.len]; omega)]
      exact iteT (q0 (meetB_len l))
    rw [eqI (show ((ys.length : Nat) : Int) = 3 by rw [hy.len]; omega)]
    refine iteF ?_
    match ds, l with
    | [p, e, n], _ =>
      obtain ⟨v1, _, rfl, a1, v2, _, rfl, a2, v3, _, rfl, a3, rfl⟩ := hy
      refine ⟨_, rfl, a, _, rfl, st_of ha, rfl, _, _, rfl, _, _, rfl, _, _, rfl, rfl, ?_⟩
      refine ⟨_, rfl, p, v1, rfl, a1, _, rfl, ?_⟩
      cases hp : peopleB p with
      | false => exact iteT (q0 (meetB_p hp))
      | true =>
        refine iteF ?_
        have hpT : p.isT = true := by
          cases z : p.isT with
          | true => rfl
          | false => rw [peopleB_not z] at hp; cases hp
        obtain ⟨ps, rfl⟩ := isT_tup hpT
        obtain ⟨pa, py, rfl, hpa, hpy⟩ := id a1
        have eps := rise_ints (b := -1) hp
        have epy := thInts hpy eps
        refine ⟨_, rfl, _, rfl, pa, _, rfl, .inr (st_of hpa), e, v2, 1, _, rfl, a2, _, rfl, ?_⟩
        rw [hpy.len]
        cases he : numB e 1 (ps.length : Nat) with
        | false =>
          refine iteT (q0 ?_)
          show (peopleB (.tup ps) && (numB e 1 (ps.length : Nat) && _)) = false
          rw [he, Bool.false_and, Bool.and_false]
        | true =>
          refine iteF ⟨_, rfl, n, v3, rfl, a3, _, rfl, ?_⟩
          cases hn : peopleB n with
          | false => exact iteF (q0 (meetB_n hn))
          | true =>
            have hnT : n.isT = true := by
              cases z : n.isT with
              | true => rfl
              | false => rw [peopleB_not z] at hn; cases hn
            obtain ⟨ns, rfl⟩ := isT_tup hnT
            obtain ⟨na, ny, rfl, hna, hny⟩ := id a3
            have ens := rise_ints (b := -1) hn
            have eny := thInts hny ens
            generalize hni : ns.map intT = ni at ens eny
            generalize hpi : ps.map intT = pi at eps epy
            subst eny
            subst epy
            refine iteT ⟨_, rfl, tg, na, _, _, rfl, .inr (st_of hna), ⟨pa, _, rfl, .inr (st_of hpa), flat_int _, flat_int _, rfl⟩, by rw [List.length_map], fun H2 tb => ?_⟩
            show Q (.bl ((List.map (fun x => inV x (List.map V.int pi)) (List.map V.int ni)).all id)) H2
            have z := q H2 (Kx.tab tg tb)
            have em : meetB (.tup [.tup ps, e, .tup ns]) = ni.all fun x => decide (x ∈ pi) := by
              show (peopleB (.tup ps) && (numB e 1 (ps.length : Nat) && (peopleB (.tup ns) && (ns.map intT).all fun x => decide (x ∈ ps.map intT)))) = _
              rw [hp, he, hn, hni, hpi, Bool.true_and, Bool.true_and, Bool.true_and]
            rw [em] at z
            have e2 : ((List.map (fun x => inV x (List.map V.int pi)) (List.map V.int ni)).all id) = ni.all fun x => decide (x ∈ pi) := by
              rw [List.map_map, List.all_map]
              congr 1
              funext x
              exact inV_int pi
            rw [e2]
            exact z
theorem okT_check_meeting (D : DefT K mg "check_meeting" st_check_meeting c) (T : Tx K mg aA) (e_BadMeeting : Exn K mg "BadMeeting" cM) (f_is_meeting : C8.Cal P w K mg base 4 "is_meeting" (sp_thG meetB cm) []) : CalX P w K mg base 5 "check_meeting" (sp_chk meetB cM cm) := by
  refine calX_of D sc_check_meeting (fun _ _ _ _ _ _ us hl => match us, hl with | [_], _ => rfl) (fun vs H Q E h => ?_) (fun f A outer s H vs Q E hr h => ?_)
  · obtain ⟨d, v, rfl, _⟩ := h
    rfl
  obtain ⟨d, v, rfl, hv, tg, q, qe⟩ := h
  refine ⟨_, (pss_one (ps_if (pt_not (pt_val (C8.pe_c f_is_meeting hr (by first | decide | exact hkp) (by rfl) (pa_cons (pv 0) pa_nil)))) (pss_one (L2N.ps_raise rfl (L2N.takes_of rfl rfl rfl rfl) (L2N.pmk_own PySem.F.excBase_ValueError e_BadMeeting.q e_BadMeeting.g e_BadMeeting.k (raises_own e_BadMeeting.b e_BadMeeting.t) (by rfl)))) pss_nil)), ?_⟩
  refine ⟨_, rfl, d, v, rfl, hv, tg, fun H1 k1 => ⟨_, rfl, ?_⟩⟩
  cases hm : meetB d with
  | false => exact iteT (qe hm H1 k1)
  | true => exact iteF (q hm H1 k1)
theorem okT_check_meetings (D : DefT K mg "check_meetings" st_check_meetings c) (T : Tx K mg aA) (e_BadMeeting : Exn K mg "BadMeeting" cM) (f_check_meeting : CalX P w K mg base 5 "check_meeting" (sp_chk meetB cM cm)) : CalX P w K mg base 6 "check_meetings" (sp_chk meetsB cM cm) := by
  refine calX_of D sc_check_meetings (fun _ _ _ _ _ _ us hl => match us, hl with | [_], _ => rfl) (fun vs H Q E h => ?_) (fun f A outer s H vs Q E hr h => ?_)
  · obtain ⟨d, v, rfl, _⟩ := h
    rfl
  obtain ⟨d, v, rfl, hv, tg, q, qe⟩ := h
  have nd := sc_check_meetings.nd
  refine ⟨_, (pss_cons (ps_if (PW.pt (pw_or (pt_not (pt_val (pe_callB call_isi (by rfl) T.z_isinstance (by decide +kernel) (pa_cons (pv 0) (pa_cons (pe_bltn (v := .ty "list") (by rfl) T.z_list (by decide +kernel) rfl) pa_nil))))) (pw_or1 (pt_cmpR op_gt (pe_callB call_len_seq (by rfl) T.z_len PySem.boot_len (pa_cons (pv 0) pa_nil)) (C8.pe_gc (by rfl) T.c_MOST_MEETINGS) (nomark _))))) (pss_one (L2N.ps_raise rfl (L2N.takes_of rfl rfl rfl rfl) (L2N.pmk_own PySem.F.excBase_ValueError e_BadMeeting.q e_BadMeeting.g e_BadMeeting.k (raises_own e_BadMeeting.b e_BadMeeting.t) (by rfl)))) pss_nil)
      (pss_one (ps_for (passes_of rfl) rfl (pi_list (pv 0)) (pg_name (i := 1) nd rfl (Or.inl rfl)) (pss_one (ps_expr (pe_cX f_check_meeting hr (by decide) (by rfl) (L2N.takes_of rfl rfl rfl rfl) (pa_cons (pv 1) pa_nil))))))), ?_⟩
  refine ⟨_, rfl, v, .ty "list", _, .type "list", d.isL, rfl, .ty _, hv.ty, kitL K d, _, rfl, ?_⟩
  cases hL : d.isL with
  | false => exact iteT (iteT (qe (meetsB_not hL) _ (Kx.refl H)))
  | true =>
    obtain ⟨ds, rfl⟩ := isL_lst hL
    obtain ⟨l, ys, rfl, hl, hy⟩ := hv
    have ly := hy.len
    have em : meetsB (.lst ds) = (decide (ds.length ≤ 6) && ds.all meetB) := rfl
    refine iteF ⟨_, rfl, l, _, rfl, .inl (sq_of hl), _, 6, rfl, rfl, _, rfl, ?_⟩
    by_cases h6 : 6 < ys.length
    · rw [show decide ((ys.length : Int) > 6) = true from decide_eq_true (by omega)]
      refine iteT (qe ?_ _ (Kx.refl H))
      rw [em, decide_eq_false (by omega), Bool.false_and]
    rw [show decide ((ys.length : Int) > 6) = false from decide_eq_false (by omega)]
    refine iteF ?_
    rw [decide_eq_true (show ds.length ≤ 6 by omega), Bool.true_and] at em
    refine ⟨_, rfl, l, rfl, ⟨_, sq_of hl⟩, for_list (K := K) (a := l) (xs := ys) (fun i σ H2 => ∃ (v2 : Option V), σ = [some (.ref l), v2] ∧ Kx H H2 ∧ ∀ x ∈ ds.take i, meetB x = true)
      ⟨none, rfl, Kx.refl H, fun x hx => absurd hx (by simp)⟩ (fun i σ H2 _ ⟨_, _, k2, _⟩ => k2.l (sq_of hl)) ?_ ?_⟩
    · rintro i y σ H2 hi ⟨v2, rfl, k2, ok2⟩
      obtain ⟨e, he, hey⟩ := hy.at hi
      refine ⟨_, rfl, e, y, rfl, hey.k k2, k2.g _ tg, fun hm H3 k3 => ⟨_, rfl, k2.trans k3, fun z hz => ?_⟩, fun hm H3 k3 => qe ?_ H3 (k2.trans k3)⟩
      · rw [List.take_add_one, he] at hz
        rcases List.mem_append.mp hz with hz | hz
        · exact ok2 z hz
        · rw [List.mem_singleton.mp hz]
          exact hm
      · rw [em, List.all_eq_false]
        exact ⟨e, List.mem_of_getElem? he, by rw [hm]; exact Bool.false_ne_true⟩
    · rintro σ H2 ⟨v2, rfl, k2, ok2⟩
      rw [show ds.take ys.length = ds by rw [ly, List.take_length]] at ok2
      exact q (em.trans (List.all_eq_true.mpr ok2)) H2 k2
end
end CH
end

section
set_option Elab.async false
set_option linter.all false
set_option maxRecDepth 100000
set_option maxHeartbeats 4000000
namespace CH
open PySem PySem.Spec PyProof.Rows L2
open GxR (TabB TabG Tabbed)
section
variable {P : Program} {w : World} {K : PySem.W.Frag} {mg : Str → Option Value} {base : Heap} {c aA cc cm cBo : Addr}
abbrev st_check_hand : Stmt := top 35
abbrev nm_check_hand : List Str := ["hand"]
theorem sc_check_hand : FnScope nm_check_hand ["hand"] (defScope st_check_hand) := C8.fnScope_by (by decide +kernel)
def sp_check_hand : Sp := fun vs H Q _ => ∃ h : Int, vs = [.int h] ∧ 0 ≤ h ∧ h ≤ 3 ∧ Q .non H
theorem ok_check_hand (D : DefT K mg "check_hand" st_check_hand c) (f_is_hand : C8.Cal P w K mg base 3 "is_hand" sp_is_hand []) : C8.Cal P w K mg base 4 "check_hand" sp_check_hand [] := by
  refine cal_of D sc_check_hand (fun _ _ _ _ _ _ us hl => match us, hl with | [_], _ => rfl) (fun vs H Q E h => ?_) (fun f A outer s H vs Q E hr h => ?_)
  · obtain ⟨h, rfl, _⟩ := h
    rfl
  · obtain ⟨h, rfl, h0, h3, q⟩ := h
    refine ⟨_, (pss_one (ps_if (pt_not (pt_val (C8.pe_c f_is_hand hr (by first | decide | exact hkp) (by rfl) (pa_cons (pv 0) pa_nil)))) (pss_one ps_never) pss_nil)), ?_⟩
    refine ⟨_, rfl, h, rfl, ?_⟩
    rw [decide_eq_true ⟨h0, h3⟩]
    exact ⟨true, rfl, iteF q⟩
abbrev st_check_person : Stmt := top 36
abbrev nm_check_person : List Str := ["person"]
theorem sc_check_person : FnScope nm_check_person ["person"] (defScope st_check_person) := C8.fnScope_by (by decide +kernel)
def sp_check_person : Sp := fun vs H Q _ => ∃ h : Int, vs = [.int h] ∧ 0 ≤ h ∧ h ≤ 7 ∧ Q .non H
theorem ok_check_person (D : DefT K mg "check_person" st_check_person c) (f_is_person : C8.Cal P w K mg base 3 "is_person" sp_is_person []) : C8.Cal P w K mg base 4 "check_person" sp_check_person [] := by
  refine cal_of D sc_check_person (fun _ _ _ _ _ _ us hl => match us, hl with | [_], _ => rfl) (fun vs H Q E h => ?_) (fun f A outer s H vs Q E hr h => ?_)
  · obtain ⟨h, rfl, _⟩ := h
    rfl
  · obtain ⟨h, rfl, h0, h3, q⟩ := h
    refine ⟨_, (pss_one (ps_if (pt_not (pt_val (C8.pe_c f_is_person hr (by first | decide | exact hkp) (by rfl) (pa_cons (pv 0) pa_nil)))) (pss_one ps_never) pss_nil)), ?_⟩
    refine ⟨_, rfl, h, rfl, ?_⟩
    rw [decide_eq_true ⟨h0, h3⟩]
    exact ⟨true, rfl, iteF q⟩
abbrev st_check_hour : Stmt := top 37
abbrev nm_check_hour : List Str := ["hour"]
theorem sc_check_hour : FnScope nm_check_hour ["hour"] (defScope st_check_hour) := C8.fnScope_by (by decide +kernel)
def sp_check_hour : Sp := fun vs H Q _ => ∃ h : Int, vs = [.int h] ∧ 0 ≤ h ∧ h ≤ 11 ∧ Q .non H
theorem ok_check_hour (D : DefT K mg "check_hour" st_check_hour c) (f_is_hour : C8.Cal P w K mg base 3 "is_hour" sp_is_hour []) : C8.Cal P w K mg base 4 "check_hour" sp_check_hour [] := by
  refine cal_of D sc_check_hour (fun _ _ _ _ _ _ us hl => match us, hl with | [_], _ => rfl) (fun vs H Q E h => ?_) (fun f A outer s H vs Q E hr h => ?_)
  · obtain ⟨h, rfl, _⟩ := h
    rfl
  · obtain ⟨h, rfl, h0, h3, q⟩ := h
    refine ⟨_, (pss_one (ps_if (pt_not (pt_val (C8.pe_c f_is_hour hr (by first | decide | exact hkp) (by rfl) (pa_cons (pv 0) pa_nil)))) (pss_one ps_never) pss_nil)), ?_⟩
    refine ⟨_, rfl, h, rfl, ?_⟩
    rw [decide_eq_true ⟨h0, h3⟩]
    exact ⟨true, rfl, iteF q⟩
abbrev st_check_answer : Stmt := top 38
abbrev nm_check_answer : List Str := ["answer"]
theorem sc_check_answer : FnScope nm_check_answer ["answer"] (defScope st_check_answer) := C8.fnScope_by (by decide +kernel)
def sp_check_answer : Sp := fun vs H Q _ => ∃ x : Str, vs = [.str x] ∧ x ∈ ansL ∧ Q .non H
theorem ok_check_answer (D : DefT K mg "check_answer" st_check_answer c) (f_is_answer : C8.Cal P w K mg base 1 "is_answer" sp_is_answer []) : C8.Cal P w K mg base 2 "check_answer" sp_check_answer [] := by
  refine cal_of D sc_check_answer (fun _ _ _ _ _ _ us hl => match us, hl with | [_], _ => rfl) (fun vs H Q E h => ?_) (fun f A outer s H vs Q E hr h => ?_)
  · obtain ⟨h, rfl, _⟩ := h
    rfl
  · obtain ⟨x, rfl, hx, q⟩ := h
    refine ⟨_, (pss_one (ps_if (pt_not (pt_val (C8.pe_c f_is_answer hr (by first | decide | exact hkp) (by rfl) (pa_cons (pv 0) pa_nil)))) (pss_one ps_never) pss_nil)), ?_⟩
    refine ⟨_, rfl, x, rfl, ?_⟩
    rw [decide_eq_true hx]
    exact ⟨true, rfl, iteF q⟩
/-- a book: its hand, what it knows -/
structure BookAt (H : Hp) (cBo x dx kn : Addr) (h : Int) (ts : List Addr) (ws : List Wd) : Prop where
  ob : H x = some (.ins cBo dx [("_hand", .int h), ("_known", .ref kn)])
  kn : H kn = some (.lst (ts.map V.ref))
  ws : TAt H ts ws
theorem BookAt.k {H H' : Hp} {cBo x dx kn : Addr} {h : Int} {ts : List Addr} {ws : List Wd} (k : Kx H H') (B : BookAt H cBo x dx kn h ts ws) : BookAt H' cBo x dx kn h ts ws :=
  ⟨k.o _ _ B.ob fun ps z => (by cases z), k.lst B.kn, B.ws.k k⟩
abbrev st_Book_init : Stmt := inClass (top 51) 0
abbrev nm_Book_init : List Str := ["self", "hand"]
theorem sc_Book_init : FnScope nm_Book_init ["self", "hand"] (defScope st_Book_init) := C8.fnScope_by (by decide +kernel)
def sp_Book_init (K : PySem.W.Frag) (cBo : Addr) : Sp := fun vs H Q _ => ∃ (H0 : Hp) (x dx : Addr) (h : Int), vs = [.ref x, .int h] ∧ 0 ≤ h ∧ h ≤ 3 ∧ H = upd (upd H0 dx (.own x)) x (.ins cBo dx []) ∧ H0 x = none ∧ H0 dx = none ∧ dx ≠ x ∧
  ∀ (H' : Hp) (kn : Addr), Kx H0 H' → H0 kn = none → kn ≠ x → BookAt H' cBo x dx kn h [] [] → Q .non H'
theorem ok_Book_init (D : MakT K mg "Book" cBo "Book.__init__" st_Book_init c) (e_Book : Own K mg "Book" cBo) (n1 : NoAttr K cBo "_hand") (n2 : NoAttr K cBo "_known") (f_check_hand : C8.Cal P w K mg base 4 "check_hand" sp_check_hand []) : C8.Mak P w K mg base 5 "Book" cBo (sp_Book_init K cBo) [] := by
  refine mak_of D sc_Book_init (fun _ _ _ _ _ _ us hl => match us, hl with | [_, _], _ => rfl) (fun vs H Q E h => ?_) (fun f A outer s H vs Q E hr h => ?_)
  · obtain ⟨H0, x, dx, h, rfl, _⟩ := h
    rfl
  · obtain ⟨H0, x, dx, h, rfl, h0, h3, rfl, nx, ndx, ndxx, q⟩ := h
    have nd := sc_Book_init.nd
    have k0 : Kx H0 (upd (upd H0 dx (.own x)) x (.ins cBo dx [])) := (Kx.new ndx).mut nx
    have hx0 : (upd (upd H0 dx (.own x)) x (.ins cBo dx [])) x = some (.ins cBo dx []) := upd_same
    refine ⟨_, (pss_cons (ps_expr (C8.pe_c f_check_hand hr (by first | decide | exact hkp) (by rfl) (pa_cons (pv 1) pa_nil)))
      (pss_cons (ps_fld (pv 0) (pv 1) rfl)
      (pss_one (ps_fld (pv 0) (pe_lst pa_nil) rfl)))), ?_⟩
    generalize upd (upd H0 dx (.own x)) x (.ins cBo dx []) = H1 at k0 hx0 ⊢
    refine ⟨_, rfl, h, rfl, h0, h3, ?_⟩
    refine ⟨_, rfl, _, rfl, x, cBo, dx, _, rfl, hx0, e_Book.cl, n1, (by show 0 < 1000; decide), ?_⟩
    rw [show putF ("_hand" : Str) (.int h) [] = [(("_hand" : Str), V.int h)] from rfl]
    have k3 : Kx H0 (upd H1 x (.ins cBo dx [("_hand", .int h)])) := k0.mut nx
    have hx3 : (upd H1 x (.ins cBo dx [("_hand", .int h)])) x = some (.ins cBo dx [("_hand", .int h)]) := upd_same
    generalize upd H1 x (.ins cBo dx [("_hand", .int h)]) = H3 at k3 hx3 ⊢
    refine ⟨Nat.zero_le _, fun kn nkn => ?_⟩
    have nknx : kn ≠ x := fun z => by rw [z, hx3] at nkn; cases nkn
    have k4 : Kx H3 (upd H3 kn (.lst [])) := Kx.new nkn
    have hkn : (upd H3 kn (.lst [])) kn = some (.lst []) := upd_same
    generalize upd H3 kn (.lst []) = H4 at k4 hkn ⊢
    have hx4 := k4.o _ _ hx3 fun ps z => nomatch z
    refine ⟨_, rfl, x, cBo, dx, _, rfl, hx4, e_Book.cl, n2, (by show 1 < 1000; decide), ?_⟩
    rw [show putF ("_known" : Str) (.ref kn) [(("_hand" : Str), V.int h)] = [(("_hand" : Str), V.int h), (("_known" : Str), V.ref kn)] from rfl]
    exact q _ kn ((k3.trans k4).mut nx) (k3.f _ nkn) nknx ⟨upd_same, by rw [upd_ne nknx]; exact hkn, .nil⟩
theorem atI_last {α : Type} {xs : List α} {x : α} (h : xs[xs.length - 1]? = some x) : atI xs (-1) = some x := by
  have hl := (List.getElem?_eq_some_iff.mp h).1
  unfold atI ixN
  rw [if_neg (by decide), if_pos (by omega)]
  show xs[((xs.length : Int) + -1).toNat]? = some x
  rw [show ((xs.length : Int) + -1).toNat = xs.length - 1 by omega]
  exact h
theorem seq_asg {t : TE} {g : TG} {rest : TS} {D : Ends} {σ : L2.St} {H : Hp} (v : V) (h1 : ∀ Q : VK, Q v H → t σ H Q) (h2 : tSeq (tAsg (tC v) g) rest D σ H) : tSeq (tAsg t g) rest D σ H := h1 _ h2
abbrev st_Book_answer : Stmt := inClass (top 51) 1
abbrev nm_Book_answer : List Str := ["self", "person", "hour", "word", "count"]
theorem sc_Book_answer : FnScope nm_Book_answer ["self", "person", "hour", "word"] (defScope st_Book_answer) := C8.fnScope_by (by decide +kernel)
def sp_answer (K : PySem.W.Frag) (cBo cT : Addr) : Sp := fun vs H Q E => ∃ (x dx kn : Addr) (h p o : Int) (a : Str) (ts : List Addr) (ws : List Wd), vs = [.ref x, .int p, .int o, .str a] ∧ BookAt H cBo x dx kn h ts ws ∧ 0 ≤ p ∧ p ≤ 7 ∧ 0 ≤ o ∧ o ≤ 11 ∧ a ∈ ansL ∧ ws.length ≤ 80 ∧
  (nextC ws ≤ 99 ∧ ws.length < 80 → ∀ (H' : Hp) (t : Addr), Ke [kn] H H' → H t = none → BookAt H' cBo x dx kn h (ts ++ [t]) (ws ++ [⟨nextC ws, h, p, o, a⟩]) → Q (.int (nextC ws)) H') ∧
  (¬ (nextC ws ≤ 99 ∧ ws.length < 80) → ∀ H', Kx H H' → E (.ref cT) none H')
theorem ok_answer {cT : Addr} (D : MetT K cBo "answer" "Book.answer" st_Book_answer c) (T : Tx K mg aA) (e_Book : Own K mg "Book" cBo) (n1 : NoAttr K cBo "_hand") (n2 : NoAttr K cBo "_known") (e_TooMany : Exn K mg "TooMany" cT)
    (f_check_person : C8.Cal P w K mg base 4 "check_person" sp_check_person []) (f_check_hour : C8.Cal P w K mg base 4 "check_hour" sp_check_hour []) (f_check_answer : C8.Cal P w K mg base 2 "check_answer" sp_check_answer []) : MetX P w K mg base 5 cBo "answer" (sp_answer K cBo cT) := by
  refine metX_of D sc_Book_answer (fun _ _ _ _ _ _ us hl => match us, hl with | [_, _, _, _], _ => rfl) (fun vs H Q E h => ?_) (fun f A outer s H vs Q E hr h => ?_)
  · obtain ⟨x, dx, kn, h, p, o, a, ts, ws, rfl, _⟩ := h
    rfl
  · obtain ⟨x, dx, kn, h, p, o, a, ts, ws, rfl, B, p0, p7, o0, o11, ha, l80, q, qt⟩ := h
    have nd := sc_Book_answer.nd
    have hu := hu_of hr
    refine ⟨_, (pss_cons (ps_expr (C8.pe_c f_check_person hr (by first | decide | exact hkp) (by rfl) (pa_cons (pv 1) pa_nil)))
      (pss_cons (ps_expr (C8.pe_c f_check_hour hr (by first | decide | exact hkp) (by rfl) (pa_cons (pv 2) pa_nil)))
      (pss_cons (ps_expr (C8.pe_c f_check_answer hr (by first | decide | exact hkp) (by rfl) (pa_cons (pv 3) pa_nil)))
      (pss_cons (ps_set (i := 4) nd rfl (Or.inl rfl) (pe_ifExp (pt_truth (pe_fld (pv 0) rfl) (by intro _; rfl)) (pe_op op_add (pe_ix ix_tup (pe_ix ix_list (pe_fld (pv 0) rfl) (pe_un un_neg pe_int) (fun _ _ => rfl)) pe_int (fun _ _ => rfl)) pe_int) pe_int))
      (pss_cons (ps_if (PW.pt (pw_or (pt_cmpR op_gt (pv 4) (C8.pe_gc (by rfl) T.c_COUNTS) (nomark _)) (pw_or1 (pt_cmpR op_ge (pe_callB call_len_seq (by rfl) T.z_len PySem.boot_len (pa_cons (pe_fld (pv 0) rfl) pa_nil)) (C8.pe_gc (by rfl) T.c_MOST_WORDS) (nomark _))))) (pss_one (L2N.ps_raise rfl (L2N.takes_of rfl rfl rfl rfl) (L2N.pmk_own PySem.F.excBase_ValueError e_TooMany.q e_TooMany.g e_TooMany.k (raises_own e_TooMany.b e_TooMany.t) (by rfl)))) pss_nil)
      (pss_cons (ps_expr (pe_bm PySem.F.plainAttrs_list PySem.F.slot_list_append PySem.F.type_list_append mt_append (pe_fld (pv 0) rfl) (pa_cons (pe_tup (pa_cons (pv 4) (pa_cons (pe_fld (pv 0) rfl) (pa_cons (pv 1) (pa_cons (pv 2) (pa_cons (pv 3) pa_nil)))))) pa_nil)))
      (pss_one (ps_ret (pv 4))))))))), ?_⟩
    refine ⟨_, rfl, p, rfl, p0, p7, _, rfl, o, rfl, o0, o11, _, rfl, a, rfl, ha, ?_⟩
    have lws := paired_len B.ws
    dsimp only
    show tSeq (tAsg _ _) _ _ _ _
    refine seq_asg (.int (nextC ws)) (fun Q' hq => ?_) ?_
    · refine ⟨_, rfl, x, cBo, dx, _, _, rfl, B.ob, e_Book.cl, n2, rfl, _, .inl ⟨_, sq_of B.kn, rfl⟩, ?_⟩
      by_cases e : ws = []
      · subst e
        obtain rfl : ts = [] := List.length_eq_zero_iff.mp lws
        exact iteF hq
      · have l0 := List.length_pos_iff.mpr e
        obtain ⟨t, ht⟩ : ∃ t, ts[ts.length - 1]? = some t := ⟨_, List.getElem?_eq_getElem (by omega)⟩
        obtain ⟨w, hw, hwt⟩ := paired_at B.ws ht
        have el : nextC ws = w.c + 1 := by
          unfold nextC
          rw [List.getLast?_eq_getElem?, ← lws, hw]
        rw [el] at hq
        rw [show (!(ts.map V.ref).isEmpty) = true from by cases ts with | nil => exact absurd lws (by show ¬ 0 = _; omega) | cons => rfl]
        refine iteT ?_
        refine ⟨_, rfl, x, cBo, dx, _, _, rfl, B.ob, e_Book.cl, n2, rfl, _, rfl, kn, _, _, .ref t, rfl, rfl, sq_of B.kn, atI_last (by rw [List.length_map, List.getElem?_map, ht] <;> rfl), t, _, 0, .int w.c, rfl, rfl, st_of hwt, atI_nat (xs := w.V) (j := 0) rfl, _, _, rfl, rfl, hq⟩
    refine ⟨_, rfl, _, _, rfl, rfl, _, rfl, ?_⟩
    by_cases c1 : nextC ws > 99
    · rw [decide_eq_true c1]
      exact iteT (iteT (qt (fun z => by omega) H (Kx.refl H)))
    rw [decide_eq_false c1]
    refine iteF ⟨_, rfl, x, cBo, dx, _, _, rfl, B.ob, e_Book.cl, n2, rfl, kn, _, rfl, .inl (sq_of B.kn), _, _, rfl, rfl, _, rfl, ?_⟩
    dsimp only
    rw [List.length_map, lws]
    by_cases c2 : (80 : Int) ≤ ws.length
    · rw [decide_eq_true c2]
      exact iteT (qt (fun z => by omega) H (Kx.refl H))
    rw [decide_eq_false c2]
    refine iteF ?_
    refine ⟨_, rfl, x, cBo, dx, _, _, rfl, B.ob, e_Book.cl, n2, rfl, .inl ⟨rfl, _, sq_of B.kn⟩, ?_⟩
    refine ⟨_, rfl, _, rfl, x, cBo, dx, _, _, rfl, B.ob, e_Book.cl, n1, rfl, _, rfl, _, rfl, _, rfl, (by show 5 ≤ sizeLine; decide), fun t nt => ?_⟩
    rw [show ([.int (nextC ws), .int h, .int p, .int o, .str a] : List V) = Wd.V ⟨nextC ws, h, p, o, a⟩ from rfl]
    have k1 : Kx H (upd H t (.tup (Wd.V ⟨nextC ws, h, p, o, a⟩))) := Kx.new nt
    have ht : (upd H t (.tup (Wd.V ⟨nextC ws, h, p, o, a⟩))) t = some (.tup (Wd.V ⟨nextC ws, h, p, o, a⟩)) := upd_same
    generalize upd H t (.tup (Wd.V ⟨nextC ws, h, p, o, a⟩)) = H1 at k1 ht ⊢
    have B1 := B.k k1
    refine ⟨kn, _, _, rfl, rfl, B1.kn, lt80 (by rw [List.length_map, lws]; omega), ?_⟩
    refine ⟨_, rfl, ?_⟩
    have nkx : x ≠ kn := fun z => by
      have e1 := B1.ob
      rw [z, B1.kn] at e1
      cases e1
    refine q ⟨by omega, by omega⟩ _ t (k1.ke.mut (List.mem_singleton.mpr rfl)) nt ⟨by rw [upd_ne nkx]; exact B1.ob, by rw [upd_same, List.map_append] <;> rfl, ?_⟩
    exact paired_snoc (B1.ws.up B1.kn fun ys y => (by cases y)) (by rw [upd_ne (fun z => by rw [z, B1.kn] at ht; cases ht)]; exact ht)
/-- .. where there is room -/
def sp_answer0 (K : PySem.W.Frag) (cBo : Addr) : Sp := fun vs H Q _ => ∃ (x dx kn : Addr) (h p o : Int) (a : Str) (ts : List Addr) (ws : List Wd), vs = [.ref x, .int p, .int o, .str a] ∧ BookAt H cBo x dx kn h ts ws ∧ 0 ≤ p ∧ p ≤ 7 ∧ 0 ≤ o ∧ o ≤ 11 ∧ a ∈ ansL ∧ nextC ws ≤ 99 ∧ ws.length < 80 ∧
  ∀ (H' : Hp) (t : Addr), Ke [kn] H H' → H t = none → BookAt H' cBo x dx kn h (ts ++ [t]) (ws ++ [⟨nextC ws, h, p, o, a⟩]) → Q (.int (nextC ws)) H'
theorem answer0 {cT : Addr} (f : MetX P w K mg base 5 cBo "answer" (sp_answer K cBo cT)) : C8.Met P w K mg base 5 cBo "answer" (sp_answer0 K cBo) [] :=
  f.met fun vs H Q E ⟨x, dx, kn, h, p, o, a, ts, ws, e, B, p0, p7, o0, o11, ha, n99, l80, q⟩ => ⟨x, dx, kn, h, p, o, a, ts, ws, e, B, p0, p7, o0, o11, ha, by omega, fun _ => q, fun z => absurd ⟨n99, l80⟩ z⟩
abbrev st_Book_hear : Stmt := inClass (top 51) 2
abbrev nm_Book_hear : List Str := ["self", "words", "known", "new"]
theorem sc_Book_hear : FnScope nm_Book_hear ["self", "words"] (defScope st_Book_hear) := C8.fnScope_by (by decide +kernel)
def sp_hear (K : PySem.W.Frag) (cBo cB cU cT : Addr) : Sp := fun vs H Q E => ∃ (x dx kn l2 : Addr) (h : Int) (ts : List Addr) (ws us : List Wd), vs = [.ref x, .ref l2] ∧ BookAt H cBo x dx kn h ts ws ∧ WsAt K H l2 us ∧ Good ws ∧ Good us ∧ Alike ws ∧ Alike us ∧
  (Alike (ws ++ us) → ∀ vs, Once (ws ++ us) vs → vs.length ≤ 80 → ∀ (H' : Hp) (r : Addr) (ts' : List Addr), Ke [x] H H' → H r = none → BookAt H' cBo x dx r h ts' vs → Q (.int ((vs.length : Int) - ws.length)) H') ∧
  (¬ Alike (ws ++ us) → ∀ H', Kx H H' → E (.ref cU) none H') ∧
  (Alike (ws ++ us) → ∀ vs, Once (ws ++ us) vs → 80 < vs.length → ∀ H', Kx H H' → E (.ref cT) none H')
theorem ok_hear {cB cU cT : Addr} (D : MetT K cBo "hear" "Book.hear" st_Book_hear c) (T : Tx K mg aA) (e_Book : Own K mg "Book" cBo) (n2 : NoAttr K cBo "_known") (f_joined : CalX P w K mg base 7 "joined" (sp_joined K cB cU cT)) : MetX P w K mg base 8 cBo "hear" (sp_hear K cBo cB cU cT) := by
  refine metX_of D sc_Book_hear (fun _ _ _ _ _ _ us hl => match us, hl with | [_, _], _ => rfl) (fun vs H Q E h => ?_) (fun f A outer s H vs Q E hr h => ?_)
  · obtain ⟨x, dx, kn, l2, h, ts, ws, us, rfl, _⟩ := h
    rfl
  · obtain ⟨x, dx, kn, l2, h, ts, ws, us, rfl, B, hl2, g1, g2, a1, a2, q, qu, qt⟩ := h
    have nd := sc_Book_hear.nd
    have hu := hu_of hr
    refine ⟨_, (pss_cons (ps_set (i := 2) nd rfl (Or.inl rfl) (pe_cX f_joined hr (by decide) (by rfl) (L2N.takes_of rfl rfl rfl rfl) (pa_cons (pe_fld (pv 0) rfl) (pa_cons (pv 1) pa_nil))))
      (pss_cons (ps_set (i := 3) nd rfl (Or.inl rfl) (pe_op op_sub (pe_callB call_len_seq (by rfl) T.z_len PySem.boot_len (pa_cons (pv 2) pa_nil)) (pe_callB call_len_seq (by rfl) T.z_len PySem.boot_len (pa_cons (pe_fld (pv 0) rfl) pa_nil))))
      (pss_cons (ps_fld (pv 0) (pv 2) rfl)
      (pss_one (ps_ret (pv 3)))))), ?_⟩
    have l1 := g1.1
    have l2' := g2.1
    refine ⟨_, rfl, x, cBo, dx, _, _, rfl, B.ob, e_Book.cl, n2, rfl, _, rfl, kn, l2, ws, us, rfl, ⟨ts, sq_of B.kn, B.ws.w⟩, hl2, by omega, by omega, fun _ _ al vs ho le H1 r ts' k1 nr hr ht => ?_, fun z => ?_, fun z => ?_, fun _ _ al vs ho big H1 k1 => qt al vs ho big H1 k1⟩
    · have lvs := paired_len ht
      have lws := paired_len B.ws
      have B1 := B.k k1
      refine ⟨_, rfl, r, _, rfl, .inl (sq_of hr), _, rfl, x, cBo, dx, _, _, rfl, B1.ob, e_Book.cl, n2, rfl, kn, _, rfl, .inl (sq_of B1.kn), _, _, rfl, rfl, ?_⟩
      rw [List.length_map, List.length_map, lvs, lws]
      have nrx : r ≠ x := fun z => by rw [z, B.ob] at nr; cases nr
      refine ⟨_, rfl, _, rfl, x, cBo, dx, _, rfl, B1.ob, e_Book.cl, n2, (by show 2 < 1000; decide), ?_⟩
      rw [show putF ("_known" : Str) (.ref r) [(("_hand" : Str), V.int h), (("_known" : Str), V.ref kn)] = [(("_hand" : Str), V.int h), (("_known" : Str), V.ref r)] from rfl]
      refine ⟨_, rfl, ?_⟩
      refine q al vs ho le _ r ts' (k1.ke.mut (List.mem_singleton.mpr rfl)) nr ⟨upd_same, by rw [upd_ne nrx]; exact hr, ?_⟩
      exact ht.up B1.ob fun ys y => (by cases y)
    · rcases z with z | ⟨_, _, z⟩
      · exact absurd g1 z
      · exact absurd g2 z
    · rcases z.2 with z | ⟨_, z⟩
      · exact absurd a1 z
      · exact qu z
def sp_hear0 (K : PySem.W.Frag) (cBo : Addr) : Sp := fun vs H Q E => ∃ (x dx kn l2 : Addr) (h : Int) (ts : List Addr) (ws us ds : List Wd), vs = [.ref x, .ref l2] ∧ BookAt H cBo x dx kn h ts ws ∧ WsAt K H l2 us ∧ Good ws ∧ Good us ∧ Alike (ws ++ us) ∧ Once (ws ++ us) ds ∧ ds.length ≤ 80 ∧
  ∀ (H' : Hp) (r : Addr) (ts' : List Addr), Ke [x] H H' → H r = none → BookAt H' cBo x dx r h ts' ds → Q (.int ((ds.length : Int) - ws.length)) H'
theorem hear0 {cB cU cT : Addr} (f : MetX P w K mg base 8 cBo "hear" (sp_hear K cBo cB cU cT)) : C8.Met P w K mg base 8 cBo "hear" (sp_hear0 K cBo) [] :=
  f.met fun vs H Q E ⟨x, dx, kn, l2, h, ts, ws, us, ds, e, B, hl, g1, g2, al, ho, l80, q⟩ => ⟨x, dx, kn, l2, h, ts, ws, us, e, B, hl, g1, g2, fun a ha b hb => al a (List.mem_append_left _ ha) b (List.mem_append_left _ hb), fun a ha b hb => al a (List.mem_append_right _ ha) b (List.mem_append_right _ hb),
    fun _ vs hv _ H' r ts' k n B' => by
      obtain rfl := once_uniq ho hv
      exact q H' r ts' k n B',
    fun z => absurd al z, fun _ vs hv big => by
      rw [once_uniq hv ho] at big
      omega⟩
abbrev st_Book_all_words : Stmt := inClass (top 51) 3
abbrev nm_Book_all_words : List Str := ["self"]
theorem sc_Book_all_words : FnScope nm_Book_all_words ["self"] (defScope st_Book_all_words) := C8.fnScope_by (by decide +kernel)
def sp_all_words (K : PySem.W.Frag) (cBo : Addr) : Sp := fun vs H Q _ => ∃ (x dx kn : Addr) (h : Int) (ts : List Addr) (ws : List Wd), vs = [.ref x] ∧ BookAt H cBo x dx kn h ts ws ∧
  ∀ (H' : Hp) (r : Addr), Kx H H' → H r = none → H' r = some (.lst (ts.map V.ref)) → Q (.ref r) H'
theorem ok_all_words (D : MetT K cBo "all_words" "Book.all_words" st_Book_all_words c) (T : Tx K mg aA) (e_Book : Own K mg "Book" cBo) (n2 : NoAttr K cBo "_known") : C8.Met P w K mg base 1 cBo "all_words" (sp_all_words K cBo) [] := by
  refine met_of D sc_Book_all_words (fun _ _ _ _ _ _ us hl => match us, hl with | [_], _ => rfl) (fun vs H Q E h => ?_) (fun f A outer s H vs Q E hr h => ?_)
  · obtain ⟨x, dx, kn, h, ts, ws, rfl, _⟩ := h
    rfl
  · obtain ⟨x, dx, kn, h, ts, ws, rfl, B, q⟩ := h
    have nd := sc_Book_all_words.nd
    refine ⟨_, (pss_one (ps_ret (pe_callTy call_list_of (by rfl) T.z_list (by decide +kernel) (pa_cons (pe_fld (pv 0) rfl) pa_nil)))), ?_⟩
    refine ⟨_, rfl, x, cBo, dx, _, _, rfl, B.ob, e_Book.cl, n2, rfl, kn, _, rfl, .inl (sq_of B.kn), fun r nr => ?_⟩
    exact q _ r (Kx.new nr) nr upd_same
abbrev st_Book_says : Stmt := inClass (top 51) 4
abbrev nm_Book_says : List Str := ["self", "person", "hour"]
theorem sc_Book_says : FnScope nm_Book_says ["self", "person", "hour"] (defScope st_Book_says) := C8.fnScope_by (by decide +kernel)
def sp_says (K : PySem.W.Frag) (cBo : Addr) : Sp := fun vs H Q _ => ∃ (x dx kn : Addr) (h p o : Int) (ts : List Addr) (ws : List Wd), vs = [.ref x, .int p, .int o] ∧ BookAt H cBo x dx kn h ts ws ∧ 0 ≤ p ∧ p ≤ 7 ∧ 0 ≤ o ∧ o ≤ 11 ∧ ws.length ≤ 200 ∧ Alike ws ∧
  ∀ (H' : Hp), Kx H H' → Q (.str (ansF ws p o)) H'
theorem ok_says (D : MetT K cBo "says" "Book.says" st_Book_says c) (T : Tx K mg aA) (e_Book : Own K mg "Book" cBo) (n2 : NoAttr K cBo "_known") (f_check_person : C8.Cal P w K mg base 4 "check_person" sp_check_person []) (f_check_hour : C8.Cal P w K mg base 4 "check_hour" sp_check_hour [])
    (f_answers_that_count : C8.Cal P w K mg base 1 "answers_that_count" (sp_answers_that_count K) []) (f_answer_of : C8.Cal P w K mg base 1 "answer_of" sp_answer_of []) : C8.Met P w K mg base 5 cBo "says" (sp_says K cBo) [] := by
  refine met_of D sc_Book_says (fun _ _ _ _ _ _ us hl => match us, hl with | [_, _, _], _ => rfl) (fun vs H Q E h => ?_) (fun f A outer s H vs Q E hr h => ?_)
  · obtain ⟨x, dx, kn, h, p, o, ts, ws, rfl, _⟩ := h
    rfl
  · obtain ⟨x, dx, kn, h, p, o, ts, ws, rfl, B, p0, p7, o0, o11, l200, al, q⟩ := h
    have nd := sc_Book_says.nd
    refine ⟨_, (pss_cons (ps_expr (C8.pe_c f_check_person hr (by first | decide | exact hkp) (by rfl) (pa_cons (pv 1) pa_nil)))
      (pss_cons (ps_expr (C8.pe_c f_check_hour hr (by first | decide | exact hkp) (by rfl) (pa_cons (pv 2) pa_nil)))
      (pss_one (ps_ret (C8.pe_c f_answer_of hr (by first | decide | exact hkp) (by rfl) (pa_cons (pv 1) (pa_cons (pv 2) (pa_cons (C8.pe_c f_answers_that_count hr (by first | decide | exact hkp) (by rfl) (pa_cons (pe_fld (pv 0) rfl) pa_nil)) pa_nil)))))))), ?_⟩
    refine ⟨_, rfl, p, rfl, p0, p7, _, rfl, o, rfl, o0, o11, ?_⟩
    refine ⟨_, rfl, _, rfl, _, rfl, x, cBo, dx, _, _, rfl, B.ob, e_Book.cl, n2, rfl, kn, ts, ws, rfl, sq_of B.kn, B.ws, l200, al, fun H1 d kvs k1 nd1 hd1 ha1 => ?_⟩
    exact ⟨d, p, o, kvs, ansW ws, rfl, hd1, ha1, fun H2 k2 => q H2 (k1.trans k2)⟩
end
end CH
end

section
set_option Elab.async false
set_option linter.all false
set_option maxRecDepth 100000
set_option maxHeartbeats 4000000
namespace CH
open PySem PySem.Spec PyProof.Rows L2
def sp_oldsT (cO : Addr) : Sp := fun vs H Q E => ∃ (d : Th) (v : V) (many : Nat), vs = [v, .int (many : Int)] ∧ At H d v ∧ (oldsB many d = true → Q .non H) ∧ (oldsB many d = false → E (.ref cO) none H)
theorem At.nn {H : Hp} {d : Th} {v : V} (h : At H d v) (n : d ≠ .non) : v ≠ .non := fun e => by
  subst e
  cases d with
  | non => exact n rfl
  | bl b => exact absurd h (by intro z; cases z)
  | int b => exact absurd h (by intro z; cases z)
  | str b => exact absurd h (by intro z; cases z)
  | lst b => obtain ⟨_, _, z, _⟩ := h; cases z
  | tup b => obtain ⟨_, _, z, _⟩ := h; cases z
  | dct => obtain ⟨_, z, _⟩ := h; cases z
/-- a book asked with what is no hand -/
def sp_Book_bad (cBo cHa : Addr) : Sp := fun vs H _ E => ∃ (H0 : Hp) (x dx : Addr) (d : Th) (v : V), vs = [.ref x, v] ∧ H = upd (upd H0 dx (.own x)) x (.ins cBo dx []) ∧ H0 x = none ∧ H0 dx = none ∧ At H0 d v ∧ handB d = false ∧ ∀ H', Kx H0 H' → E (.ref cHa) none H'
/-- an answer that is none; the first of what is wrong -/
inductive ABad (cP cO cW : Addr) : Th → Th → Th → Addr → Prop
  | p {p o a : Th} (h : personB p = false) : ABad cP cO cW p o a cP
  | o {p o a : Th} (h : personB p = true) (h2 : hourB o = false) : ABad cP cO cW p o a cO
  | a {p o a : Th} (h : personB p = true) (h2 : hourB o = true) (h3 : ansB a = false) : ABad cP cO cW p o a cW
def sp_answerT (cP cO cW : Addr) : Sp := fun vs H _ E => ∃ (x : Addr) (p o a : Th) (vp vo va : V) (C : Addr), vs = [.ref x, vp, vo, va] ∧ At H p vp ∧ At H o vo ∧ At H a va ∧ ABad cP cO cW p o a C ∧ E (.ref C) none H
def sp_saysT (cP cO : Addr) : Sp := fun vs H _ E => ∃ (x : Addr) (p o : Th) (vp vo : V) (C : Addr), vs = [.ref x, vp, vo] ∧ At H p vp ∧ At H o vo ∧ ABad cP cO cO p o .non C ∧ (personB p = true → hourB o = false) ∧ E (.ref C) none H
def sp_hearT (K : PySem.W.Frag) (cBo cB cU : Addr) : Sp := fun vs H _ E => ∃ (x dx kn : Addr) (g : Int) (ts : List Addr) (ws : List Wd) (d : Th) (v : V) (C : Addr), vs = [.ref x, v] ∧ BookAt H cBo x dx kn g ts ws ∧ Good ws ∧ Alike ws ∧ At H d v ∧ WBad cB cU d C ∧ ∀ H', Kx H H' → E (.ref C) none H'
section
variable {P : Program} {w : World} {K : PySem.W.Frag} {mg : Str → Option Value} {base : Heap} {c aA cBo cHa cPe cHo cWd cO cB cU : Addr}
theorem okT_check_olds (D : DefT K mg "check_olds" st_check_olds c) (T : Tx K mg aA) (e_BadOlds : Exn K mg "BadOlds" cO) (f_is_hour : C8.Cal P w K mg base 3 "is_hour" (sp_th hourB) []) : CalX P w K mg base 4 "check_olds" (sp_oldsT cO) := by
  refine calX_of D sc_check_olds (fun _ _ _ _ _ _ us hl => match us, hl with | [_, _], _ => rfl) (fun vs H Q E h => ?_) (fun f A outer s H vs Q E hr h => ?_)
  · obtain ⟨d, v, many, rfl, _⟩ := h
    rfl
  obtain ⟨d, v, many, rfl, hv, q, qe⟩ := h
  have nd := sc_check_olds.nd
  refine ⟨_, (pss_cons (ps_if (PW.pt (pw_or (pt_not (pt_val (pe_callB call_isi (by rfl) T.z_isinstance (by decide +kernel) (pa_cons (pv 0) (pa_cons (pe_bltn (v := .ty "list") (by rfl) T.z_list (by decide +kernel) rfl) pa_nil))))) (pw_or1 (pt_cmpR op_ne (pe_callB call_len_seq (by rfl) T.z_len PySem.boot_len (pa_cons (pv 0) pa_nil)) (pv 1) (nomark _))))) (pss_one (L2N.ps_raise rfl (L2N.takes_of rfl rfl rfl rfl) (L2N.pmk_own PySem.F.excBase_ValueError e_BadOlds.q e_BadOlds.g e_BadOlds.k (raises_own e_BadOlds.b e_BadOlds.t) (by rfl)))) pss_nil)
      (pss_one (ps_for (passes_of rfl) rfl (pi_list (pv 0)) (pg_name (i := 2) nd rfl (Or.inl rfl)) (pss_one (ps_if (PW.pt (pw_and (pt_cmp (pc_notN (pv 2))) (pw_and1 (pt_not (pt_val (C8.pe_c f_is_hour hr (by first | decide | exact hkp) (by rfl) (pa_cons (pv 2) pa_nil))))))) (pss_one (L2N.ps_raise rfl (L2N.takes_of rfl rfl rfl rfl) (L2N.pmk_own PySem.F.excBase_ValueError e_BadOlds.q e_BadOlds.g e_BadOlds.k (raises_own e_BadOlds.b e_BadOlds.t) (by rfl)))) pss_nil))))), ?_⟩
  refine ⟨_, rfl, v, .ty "list", _, .type "list", d.isL, rfl, .ty _, hv.ty, kitL K d, _, rfl, ?_⟩
  cases hL : d.isL with
  | false => exact iteT (iteT (qe (oldsB_not hL)))
  | true =>
    obtain ⟨ds, rfl⟩ := isL_lst hL
    obtain ⟨l, ys, rfl, hl, hy⟩ := hv
    have ly := hy.len
    have em : oldsB many (.lst ds) = (decide (ds.length = many) && ds.all oldB) := rfl
    refine iteF ⟨_, rfl, l, _, rfl, .inl (sq_of hl), ?_⟩
    refine ⟨_, rfl, rfl, _, rfl, ?_⟩
    by_cases hm : ds.length = many
    case neg =>
      rw [neI (show ((ys.length : Nat) : Int) ≠ (many : Int) by omega)]
      refine iteT (qe ?_)
      rw [em, decide_eq_false hm, Bool.false_and]
    rw [eqI (show ((ys.length : Nat) : Int) = (many : Int) by omega)]
    refine iteF ?_
    rw [decide_eq_true hm, Bool.true_and] at em
    refine ⟨_, rfl, l, rfl, ⟨_, sq_of hl⟩, for_list (K := K) (a := l) (xs := ys) (fun i σ H2 => ∃ (v2 : Option V), σ = [some (.ref l), some (.int (many : Int)), v2] ∧ H2 = H ∧ ∀ x ∈ ds.take i, oldB x = true)
      ⟨none, rfl, rfl, fun x hx => absurd hx (by simp)⟩ (fun i σ H2 _ ⟨_, _, k2, _⟩ => k2 ▸ sq_of hl) ?_ ?_⟩
    · rintro i y σ H2 hi ⟨v2, rfl, rfl, ok2⟩
      obtain ⟨e, he, hey⟩ := hy.at hi
      have more : oldB e = true → ∀ x ∈ ds.take (i + 1), oldB x = true := fun z x hx => by
        rw [List.take_add_one, he] at hx
        rcases List.mem_append.mp hx with hx | hx
        · exact ok2 x hx
        · rw [List.mem_singleton.mp hx]
          exact z
      by_cases en : e = .non
      · subst en
        obtain rfl : y = .non := hey
        exact ⟨_, rfl, _, rfl, iteF (iteF ⟨_, rfl, rfl, more rfl⟩)⟩
      · have hyn : (!decide (y = V.non)) = true := by rw [decide_eq_false (hey.nn en)] <;> rfl
        have eo : oldB e = hourB e := by
          cases e with
          | non => exact absurd rfl en
          | _ => rfl
        refine ⟨_, rfl, _, rfl, ?_⟩
        show if (!decide (y = V.non)) = true then _ else _
        rw [hyn]
        refine iteT ⟨_, rfl, e, y, rfl, hey, _, rfl, ?_⟩
        cases hh : hourB e with
        | false =>
          refine iteT (qe ?_)
          rw [em, List.all_eq_false]
          exact ⟨e, List.mem_of_getElem? he, by rw [eo, hh]; exact Bool.false_ne_true⟩
        | true => exact iteF ⟨_, rfl, rfl, more (eo.trans hh)⟩
    · rintro σ H2 ⟨v2, rfl, rfl, ok2⟩
      rw [show ds.take ys.length = ds by rw [ly, List.take_length]] at ok2
      exact q (em.trans (List.all_eq_true.mpr ok2))
theorem len_ck {f : Th → Bool} {C : Addr} {vs : List V} {H : Hp} {Q : VK} {E : XK} (h : sp_ck f C vs H Q E) : vs.length = 1 := by
  obtain ⟨d, v, rfl, _⟩ := h
  rfl
theorem okT_check_hand (D : DefT K mg "check_hand" st_check_hand c) (e_BadHand : Exn K mg "BadHand" cHa) (f_is_hand : C8.Cal P w K mg base 3 "is_hand" (sp_th handB) []) : CalX P w K mg base 4 "check_hand" (sp_ck handB cHa) := by
  refine calX_of D sc_check_hand (fun _ _ _ _ _ _ us hl => match us, hl with | [_], _ => rfl) (fun vs H Q E h => len_ck h) (fun f A outer s H vs Q E hr h => ?_)
  obtain ⟨d, v, rfl, hv, q, qe⟩ := h
  refine ⟨_, (pss_one (ps_if (pt_not (pt_val (C8.pe_c f_is_hand hr (by first | decide | exact hkp) (by rfl) (pa_cons (pv 0) pa_nil)))) (pss_one (L2N.ps_raise rfl (L2N.takes_of rfl rfl rfl rfl) (L2N.pmk_own PySem.F.excBase_ValueError e_BadHand.q e_BadHand.g e_BadHand.k (raises_own e_BadHand.b e_BadHand.t) (by rfl)))) pss_nil)), ?_⟩
  refine ⟨_, rfl, d, v, rfl, hv, _, rfl, ?_⟩
  cases hm : handB d with
  | false => exact iteT (qe hm)
  | true => exact iteF (q hm)
theorem okT_check_person (D : DefT K mg "check_person" st_check_person c) (e_BadPerson : Exn K mg "BadPerson" cPe) (f_is_person : C8.Cal P w K mg base 3 "is_person" (sp_th personB) []) : CalX P w K mg base 4 "check_person" (sp_ck personB cPe) := by
  refine calX_of D sc_check_person (fun _ _ _ _ _ _ us hl => match us, hl with | [_], _ => rfl) (fun vs H Q E h => len_ck h) (fun f A outer s H vs Q E hr h => ?_)
  obtain ⟨d, v, rfl, hv, q, qe⟩ := h
  refine ⟨_, (pss_one (ps_if (pt_not (pt_val (C8.pe_c f_is_person hr (by first | decide | exact hkp) (by rfl) (pa_cons (pv 0) pa_nil)))) (pss_one (L2N.ps_raise rfl (L2N.takes_of rfl rfl rfl rfl) (L2N.pmk_own PySem.F.excBase_ValueError e_BadPerson.q e_BadPerson.g e_BadPerson.k (raises_own e_BadPerson.b e_BadPerson.t) (by rfl)))) pss_nil)), ?_⟩
  refine ⟨_, rfl, d, v, rfl, hv, _, rfl, ?_⟩
  cases hm : personB d with
  | false => exact iteT (qe hm)
  | true => exact iteF (q hm)
theorem okT_check_hour (D : DefT K mg "check_hour" st_check_hour c) (e_BadHour : Exn K mg "BadHour" cHo) (f_is_hour : C8.Cal P w K mg base 3 "is_hour" (sp_th hourB) []) : CalX P w K mg base 4 "check_hour" (sp_ck hourB cHo) := by
  refine calX_of D sc_check_hour (fun _ _ _ _ _ _ us hl => match us, hl with | [_], _ => rfl) (fun vs H Q E h => len_ck h) (fun f A outer s H vs Q E hr h => ?_)
  obtain ⟨d, v, rfl, hv, q, qe⟩ := h
  refine ⟨_, (pss_one (ps_if (pt_not (pt_val (C8.pe_c f_is_hour hr (by first | decide | exact hkp) (by rfl) (pa_cons (pv 0) pa_nil)))) (pss_one (L2N.ps_raise rfl (L2N.takes_of rfl rfl rfl rfl) (L2N.pmk_own PySem.F.excBase_ValueError e_BadHour.q e_BadHour.g e_BadHour.k (raises_own e_BadHour.b e_BadHour.t) (by rfl)))) pss_nil)), ?_⟩
  refine ⟨_, rfl, d, v, rfl, hv, _, rfl, ?_⟩
  cases hm : hourB d with
  | false => exact iteT (qe hm)
  | true => exact iteF (q hm)
theorem okT_check_answer (D : DefT K mg "check_answer" st_check_answer c) (e_BadWord : Exn K mg "BadWord" cWd) (f_is_answer : C8.Cal P w K mg base 1 "is_answer" (sp_th ansB) []) : CalX P w K mg base 2 "check_answer" (sp_ck ansB cWd) := by
  refine calX_of D sc_check_answer (fun _ _ _ _ _ _ us hl => match us, hl with | [_], _ => rfl) (fun vs H Q E h => len_ck h) (fun f A outer s H vs Q E hr h => ?_)
  obtain ⟨d, v, rfl, hv, q, qe⟩ := h
  refine ⟨_, (pss_one (ps_if (pt_not (pt_val (C8.pe_c f_is_answer hr (by first | decide | exact hkp) (by rfl) (pa_cons (pv 0) pa_nil)))) (pss_one (L2N.ps_raise rfl (L2N.takes_of rfl rfl rfl rfl) (L2N.pmk_own PySem.F.excBase_ValueError e_BadWord.q e_BadWord.g e_BadWord.k (raises_own e_BadWord.b e_BadWord.t) (by rfl)))) pss_nil)), ?_⟩
  refine ⟨_, rfl, d, v, rfl, hv, _, rfl, ?_⟩
  cases hm : ansB d with
  | false => exact iteT (qe hm)
  | true => exact iteF (q hm)
theorem okT_Book_init (D : MakT K mg "Book" cBo "Book.__init__" st_Book_init c) (e_Book : Own K mg "Book" cBo) (f_check_hand : CalX P w K mg base 4 "check_hand" (sp_ck handB cHa)) : MakX P w K mg base 5 "Book" cBo (sp_Book_bad cBo cHa) := by
  refine makX_of D sc_Book_init (fun _ _ _ _ _ _ us hl => match us, hl with | [_, _], _ => rfl) (fun vs H Q E h => ?_) (fun f A outer s H vs Q E hr h => ?_)
  · obtain ⟨H0, x, dx, d, v, rfl, _⟩ := h
    rfl
  obtain ⟨H0, x, dx, d, v, rfl, rfl, nx, ndx, hv, hb, q⟩ := h
  have nd := sc_Book_init.nd
  have k0 : Kx H0 (upd (upd H0 dx (.own x)) x (.ins cBo dx [])) := (Kx.new ndx).mut nx
  refine ⟨_, (pss_cons (ps_expr (pe_cX f_check_hand hr (by decide) (by rfl) (L2N.takes_of rfl rfl rfl rfl) (pa_cons (pv 1) pa_nil))) pss_no), ?_⟩
  generalize upd (upd H0 dx (.own x)) x (.ins cBo dx []) = H1 at k0 ⊢
  exact ⟨_, rfl, d, v, rfl, hv.k k0, (fun z => absurd (hb.symm.trans z) Bool.false_ne_true), fun _ => q _ k0⟩
theorem okT_answer (D : MetT K cBo "answer" "Book.answer" st_Book_answer c) (T : Tx K mg aA) (e_Book : Own K mg "Book" cBo) (f_check_person : CalX P w K mg base 4 "check_person" (sp_ck personB cPe)) (f_check_hour : CalX P w K mg base 4 "check_hour" (sp_ck hourB cHo)) (f_check_answer : CalX P w K mg base 2 "check_answer" (sp_ck ansB cWd)) :
    MetX P w K mg base 5 cBo "answer" (sp_answerT cPe cHo cWd) := by
  refine metX_of D sc_Book_answer (fun _ _ _ _ _ _ us hl => match us, hl with | [_, _, _, _], _ => rfl) (fun vs H Q E h => ?_) (fun f A outer s H vs Q E hr h => ?_)
  · obtain ⟨x, p, o, a, vp, vo, va, C, rfl, _⟩ := h
    rfl
  obtain ⟨x, p, o, a, vp, vo, va, C, rfl, hp, ho, ha, hb, q⟩ := h
  have nd := sc_Book_answer.nd
  refine ⟨_, (pss_cons (ps_expr (pe_cX f_check_person hr (by decide) (by rfl) (L2N.takes_of rfl rfl rfl rfl) (pa_cons (pv 1) pa_nil)))
      (pss_cons (ps_expr (pe_cX f_check_hour hr (by decide) (by rfl) (L2N.takes_of rfl rfl rfl rfl) (pa_cons (pv 2) pa_nil)))
      (pss_cons (ps_expr (pe_cX f_check_answer hr (by decide) (by rfl) (L2N.takes_of rfl rfl rfl rfl) (pa_cons (pv 3) pa_nil))) pss_no))), ?_⟩
  refine ⟨_, rfl, p, vp, rfl, hp, fun z => ?_, fun z => ?_⟩
  · refine ⟨_, rfl, o, vo, rfl, ho, fun z2 => ?_, fun z2 => ?_⟩
    · refine ⟨_, rfl, a, va, rfl, ha, fun z3 => ?_, fun z3 => ?_⟩
      · cases hb with
        | p h => rw [z] at h; cases h
        | o h h2 => rw [z2] at h2; cases h2
        | a h h2 h3 => rw [z3] at h3; cases h3
      · cases hb with
        | p h => rw [z] at h; cases h
        | o h h2 => rw [z2] at h2; cases h2
        | a h h2 h3 => exact q
    · cases hb with
      | p h => rw [z] at h; cases h
      | o h h2 => exact q
      | a h h2 h3 => rw [z2] at h2; cases h2
  · cases hb with
    | p h => exact q
    | o h h2 => rw [z] at h; cases h
    | a h h2 h3 => rw [z] at h; cases h
theorem okT_says (D : MetT K cBo "says" "Book.says" st_Book_says c) (T : Tx K mg aA) (e_Book : Own K mg "Book" cBo) (f_check_person : CalX P w K mg base 4 "check_person" (sp_ck personB cPe)) (f_check_hour : CalX P w K mg base 4 "check_hour" (sp_ck hourB cHo)) : MetX P w K mg base 5 cBo "says" (sp_saysT cPe cHo) := by
  refine metX_of D sc_Book_says (fun _ _ _ _ _ _ us hl => match us, hl with | [_, _, _], _ => rfl) (fun vs H Q E h => ?_) (fun f A outer s H vs Q E hr h => ?_)
  · obtain ⟨x, p, o, vp, vo, C, rfl, _⟩ := h
    rfl
  obtain ⟨x, p, o, vp, vo, C, rfl, hp, ho, hb, hb2, q⟩ := h
  have nd := sc_Book_says.nd
  refine ⟨_, (pss_cons (ps_expr (pe_cX f_check_person hr (by decide) (by rfl) (L2N.takes_of rfl rfl rfl rfl) (pa_cons (pv 1) pa_nil)))
      (pss_cons (ps_expr (pe_cX f_check_hour hr (by decide) (by rfl) (L2N.takes_of rfl rfl rfl rfl) (pa_cons (pv 2) pa_nil))) pss_no)), ?_⟩
  refine ⟨_, rfl, p, vp, rfl, hp, fun z => ?_, fun z => ?_⟩
  · refine ⟨_, rfl, o, vo, rfl, ho, fun z2 => ?_, fun z2 => ?_⟩
    · rw [hb2 z] at z2
      cases z2
    · cases hb with
      | p h => rw [z] at h; cases h
      | o h h2 => exact q
      | a h h2 h3 => exact q
  · cases hb with
    | p h => exact q
    | o h h2 => rw [z] at h; cases h
    | a h h2 h3 => rw [z] at h; cases h
theorem okT_hear (D : MetT K cBo "hear" "Book.hear" st_Book_hear c) (T : Tx K mg aA) (e_Book : Own K mg "Book" cBo) (n2 : NoAttr K cBo "_known") (f_joined : CalX P w K mg base 7 "joined" (sp_jbad K cB cU)) : MetX P w K mg base 8 cBo "hear" (sp_hearT K cBo cB cU) := by
  refine metX_of D sc_Book_hear (fun _ _ _ _ _ _ us hl => match us, hl with | [_, _], _ => rfl) (fun vs H Q E h => ?_) (fun f A outer s H vs Q E hr h => ?_)
  · obtain ⟨x, dx, kn, g, ts, ws, d, v, C, rfl, _⟩ := h
    rfl
  obtain ⟨x, dx, kn, g, ts, ws, d, v, C, rfl, B, gw, al, hv, hb, q⟩ := h
  have nd := sc_Book_hear.nd
  refine ⟨_, (pss_cons (ps_set (i := 2) nd rfl (Or.inl rfl) (pe_cX f_joined hr (by decide) (by rfl) (L2N.takes_of rfl rfl rfl rfl) (pa_cons (pe_fld (pv 0) rfl) (pa_cons (pv 1) pa_nil)))) pss_no), ?_⟩
  exact ⟨_, rfl, x, cBo, dx, _, _, rfl, B.ob, e_Book.cl, n2, rfl, _, rfl, d, v, .non, C, .inr ⟨kn, ws, rfl, ⟨ts, sq_of B.kn, B.ws.w⟩, gw.1, gw.2, al⟩, hv, hb, q⟩
end
end CH
end

section
set_option Elab.async false
set_option linter.all false
set_option maxRecDepth 100000
set_option maxHeartbeats 4000000
namespace CH
open PySem PySem.Spec PyProof.Rows L2
open GxR (TabB TabG Tabbed)
section
variable {P : Program} {w : World} {K : PySem.W.Frag} {mg : Str → Option Value} {base : Heap} {c aA cc cm : Addr}
abbrev st_hours_by : Stmt := top 47
abbrev nm_hours_by : List Str := ["words", "meeting", "coming", "answers"]
theorem sc_hours_by : FnScope nm_hours_by ["words", "meeting", "coming"] (defScope st_hours_by) := C8.fnScope_by (by decide +kernel)
def sp_hours_by (K : PySem.W.Frag) (cm cc : Addr) : Sp := fun vs H Q _ => ∃ (l a g : Addr) (ws : List Wd) (m : Mt) (cs : List Str), vs = [.ref l, .ref a, .ref g] ∧ Asked K H l ws a m cm cc ∧ SqT K H g (cs.map V.str) ∧
  ∀ (H' : Hp) (r : Addr), Kx H H' → H r = none → H' r = some (.lst ((hoursL m cs (ansF ws)).map V.int)) → Q (.ref r) H'
theorem ok_hours_by (D : DefT K mg "hours_by" st_hours_by c) (T : Tx K mg aA) (f_checked_words : C8.Cal P w K mg base 6 "checked_words" (sp_checked_words0 K) []) (f_check_meeting : C8.Cal P w K mg base 5 "check_meeting" (sp_check_meeting K cm) [])
    (f_answers_that_count : C8.Cal P w K mg base 1 "answers_that_count" (sp_answers_that_count K) []) (f_hours_of : C8.Cal P w K mg base 3 "hours_of" (sp_hours_of K cc) []) : C8.Cal P w K mg base 7 "hours_by" (sp_hours_by K cm cc) [] := by
  refine cal_of D sc_hours_by (fun _ _ _ _ _ _ us hl => match us, hl with | [_, _, _], _ => rfl) (fun vs H Q E h => ?_) (fun f A outer s H vs Q E hr h => ?_)
  · obtain ⟨l, a, g, ws, m, cs, rfl, _⟩ := h
    rfl
  · obtain ⟨l, a, g, ws, m, cs, rfl, ask, hg, q⟩ := h
    have nd := sc_hours_by.nd
    refine ⟨_, (pss_cons (ps_set (i := 3) nd rfl (Or.inl rfl) (C8.pe_c f_answers_that_count hr (by first | decide | exact hkp) (by rfl) (pa_cons (C8.pe_c f_checked_words hr (by first | decide | exact hkp) (by rfl) (pa_cons (pv 0) pa_nil)) pa_nil)))
      (pss_cons (ps_expr (C8.pe_c f_check_meeting hr (by first | decide | exact hkp) (by rfl) (pa_cons (pv 1) pa_nil)))
      (pss_one (ps_ret (C8.pe_c f_hours_of hr (by first | decide | exact hkp) (by rfl) (pa_cons (pv 1) (pa_cons (pv 3) (pa_cons (pv 2) pa_nil)))))))), ?_⟩
    refine ⟨_, rfl, l, ws, rfl, ask.hw, ask.h80, ask.ok, ask.al, fun H1 r1 ts us k1 nr1 hr1 ht1 ho => ?_⟩
    have lu : us.length ≤ 200 := by
      have := once_len ho
      have := ask.h80
      omega
    have alu : Alike us := fun a ha b hb => ask.al a ((ho.mem a).mp ha) b ((ho.mem b).mp hb)
    refine ⟨r1, ts, us, rfl, sq_of hr1, ht1, lu, alu, fun H2 d kvs k2 nd2 hd2 ha2 => ?_⟩
    have ask2 := ask.k (k1.trans k2)
    refine ⟨_, rfl, a, m, rfl, ask2.hm, ask2.mok, ask2.tm, fun H3 k3 => ?_⟩
    have k03 := (k1.trans k2).trans k3
    have ask3 := ask.k k03
    have ha3 : AnsD kvs (ansW ws) := fun p o => by
      rw [ha2 p o, isAns_uniq ask.al (isAns_once ho (ansW_is us p o)) (ansW_is ws p o)]
    refine ⟨_, rfl, _, rfl, _, rfl, a, d, g, m, kvs, ansW ws, cs, rfl, ask3.hm, rise_len8 ask.mok.p, k3.dt hd2, ha3, k03.t hg, ask3.tc, fun H4 r k4 nr hr4 => ?_⟩
    exact q H4 r (k03.trans k4) (k03.f _ nr) hr4
abbrev st_hours : Stmt := top 48
abbrev nm_hours : List Str := ["words", "meeting"]
theorem sc_hours : FnScope nm_hours ["words", "meeting"] (defScope st_hours) := C8.fnScope_by (by decide +kernel)
abbrev st_hours_maybe : Stmt := top 49
abbrev nm_hours_maybe : List Str := ["words", "meeting"]
theorem sc_hours_maybe : FnScope nm_hours_maybe ["words", "meeting"] (defScope st_hours_maybe) := C8.fnScope_by (by decide +kernel)
def sp_hours (K : PySem.W.Frag) (cm cc : Addr) (cs : List Str) : Sp := fun vs H Q _ => ∃ (l a : Addr) (ws : List Wd) (m : Mt), vs = [.ref l, .ref a] ∧ Asked K H l ws a m cm cc ∧
  ∀ (H' : Hp) (r : Addr), Kx H H' → H r = none → H' r = some (.lst ((hoursL m cs (ansF ws)).map V.int)) → Q (.ref r) H'
theorem ok_hours (D : DefT K mg "hours" st_hours c) (T : Tx K mg aA) (f_hours_by : C8.Cal P w K mg base 7 "hours_by" (sp_hours_by K cm cc) []) : C8.Cal P w K mg base 8 "hours" (sp_hours K cm cc ["yes"]) [] := by
  refine cal_of D sc_hours (fun _ _ _ _ _ _ us hl => match us, hl with | [_, _], _ => rfl) (fun vs H Q E h => ?_) (fun f A outer s H vs Q E hr h => ?_)
  · obtain ⟨l, a, ws, m, rfl, _⟩ := h
    rfl
  · obtain ⟨l, a, ws, m, rfl, ask, q⟩ := h
    refine ⟨_, (pss_one (ps_ret (C8.pe_c f_hours_by hr (by first | decide | exact hkp) (by rfl) (pa_cons (pv 0) (pa_cons (pv 1) (pa_cons (C8.pe_gc (by rfl) T.c_YES) pa_nil)))))), ?_⟩
    exact ⟨_, rfl, _, rfl, l, a, _, ws, m, ["yes"], rfl, ask, T.h_YES H, q⟩
theorem ok_hours_maybe (D : DefT K mg "hours_maybe" st_hours_maybe c) (T : Tx K mg aA) (f_hours_by : C8.Cal P w K mg base 7 "hours_by" (sp_hours_by K cm cc) []) : C8.Cal P w K mg base 8 "hours_maybe" (sp_hours K cm cc ["yes", "maybe"]) [] := by
  refine cal_of D sc_hours_maybe (fun _ _ _ _ _ _ us hl => match us, hl with | [_, _], _ => rfl) (fun vs H Q E h => ?_) (fun f A outer s H vs Q E hr h => ?_)
  · obtain ⟨l, a, ws, m, rfl, _⟩ := h
    rfl
  · obtain ⟨l, a, ws, m, rfl, ask, q⟩ := h
    refine ⟨_, (pss_one (ps_ret (C8.pe_c f_hours_by hr (by first | decide | exact hkp) (by rfl) (pa_cons (pv 0) (pa_cons (pv 1) (pa_cons (C8.pe_gc (by rfl) T.c_YES_OR_MAYBE) pa_nil)))))), ?_⟩
    exact ⟨_, rfl, _, rfl, l, a, _, ws, m, ["yes", "maybe"], rfl, ask, T.h_YES_OR_MAYBE H, q⟩
end
end CH
end

section
set_option Elab.async false
set_option linter.all false
set_option maxRecDepth 100000
set_option maxHeartbeats 4000000
namespace CH
open PySem PySem.Spec PyProof.Rows L2
open GxR (TabB TabG Tabbed)
section
variable {P : Program} {w : World} {K : PySem.W.Frag} {mg : Str → Option Value} {base : Heap} {c aA cc cm cAt cBa : Addr}
abbrev st_At_init : Stmt := inClass (top 54) 0
abbrev nm_At_init : List Str := ["self", "hour"]
theorem sc_At_init : FnScope nm_At_init ["self", "hour"] (defScope st_At_init) := C8.fnScope_by (by decide +kernel)
abbrev st_Barred_init : Stmt := inClass (top 55) 0
abbrev nm_Barred_init : List Str := ["self", "rows"]
theorem sc_Barred_init : FnScope nm_Barred_init ["self", "rows"] (defScope st_Barred_init) := C8.fnScope_by (by decide +kernel)
def sp_At_init (cAt : Addr) : Sp := fun vs H Q _ => ∃ (x dx : Addr) (h : Int), vs = [.ref x, .int h] ∧ H x = some (.ins cAt dx []) ∧ Q .non (upd H x (.ins cAt dx [("hour", .int h)]))
theorem ok_At_init (D : MakT K mg "At" cAt "At.__init__" st_At_init c) (e_At : Own K mg "At" cAt) (n_hour : NoAttr K cAt "hour") (f_copied : C8.Cal P w K mg base 1 "copied" sp_copied_int []) : C8.Mak P w K mg base 2 "At" cAt (sp_At_init cAt) [] := by
  refine mak_of D sc_At_init (fun _ _ _ _ _ _ us hl => match us, hl with | [_, _], _ => rfl) (fun vs H Q E h => ?_) (fun f A outer s H vs Q E hr h => ?_)
  · obtain ⟨x, dx, h, rfl, _⟩ := h
    rfl
  · obtain ⟨x, dx, h, rfl, hx, q⟩ := h
    have nd := sc_At_init.nd
    refine ⟨_, (pss_one (ps_fld (pv 0) (C8.pe_c f_copied hr (by first | decide | exact hkp) (by rfl) (pa_cons (pv 1) pa_nil)) rfl)), ?_⟩
    exact ⟨_, rfl, h, rfl, _, rfl, x, cAt, dx, _, rfl, hx, e_At.cl, n_hour, (by show 0 < 1000; decide), q⟩
def sp_Barred_init (K : PySem.W.Frag) (cBa : Addr) : Sp := fun vs H Q _ => ∃ (H0 : Hp) (x dx l : Addr) (ts : List Addr) (rs : List (List Int)), vs = [.ref x, .ref l] ∧ H = upd (upd H0 dx (.own x)) x (.ins cBa dx []) ∧ H0 x = none ∧ H0 dx = none ∧ dx ≠ x ∧ SqL K H0 l (ts.map V.ref) ∧ RowsIn K H0 ts rs ∧ rs.length ≤ 1000 ∧
  ∀ (H' : Hp) (r : Addr) (ts' : List Addr), Kx H0 H' → H' x = some (.ins cBa dx [("rows", .ref r)]) → H0 r = none → H' r = some (.lst (ts'.map V.ref)) → RowsNew H0 H' r ts' rs → Q .non H'
theorem ok_Barred_init (D : MakT K mg "Barred" cBa "Barred.__init__" st_Barred_init c) (e_Barred : Own K mg "Barred" cBa) (n_rows : NoAttr K cBa "rows") (f_copied : C8.Cal P w K mg base 1 "copied" (sp_copied_els K) []) : C8.Mak P w K mg base 2 "Barred" cBa (sp_Barred_init K cBa) [] := by
  refine mak_of D sc_Barred_init (fun _ _ _ _ _ _ us hl => match us, hl with | [_, _], _ => rfl) (fun vs H Q E h => ?_) (fun f A outer s H vs Q E hr h => ?_)
  · obtain ⟨H0, x, dx, l, ts, rs, rfl, _⟩ := h
    rfl
  · obtain ⟨H0, x, dx, l, ts, rs, rfl, rfl, nx, ndx, ndxx, hl, hrs, lrs, q⟩ := h
    have nd := sc_Barred_init.nd
    have k0 : Kx H0 (upd (upd H0 dx (.own x)) x (.ins cBa dx [])) := (Kx.new ndx).mut nx
    refine ⟨_, (pss_one (ps_fld (pv 0) (C8.pe_c f_copied hr (by first | decide | exact hkp) (by rfl) (pa_cons (pv 1) pa_nil)) rfl)), ?_⟩
    refine ⟨_, rfl, l, _, rs.map Sum.inr, rfl, k0.l hl, at_rows (hrs.k k0), (by rw [List.length_map]; exact lrs), fun H1 r b ns k1 nr hr1 cp => ?_⟩
    obtain ⟨ts', rfl, rn⟩ := cp.rows
    have hx1 := k1.o _ _ (show (upd (upd H0 dx (.own x)) x (.ins cBa dx [])) x = some (.ins cBa dx []) from upd_same) fun ps z => nomatch z
    refine ⟨_, rfl, x, cBa, dx, _, rfl, hx1, e_Barred.cl, n_rows, (by show 0 < 1000; decide), ?_⟩
    have nrx : r ≠ x := fun z => by rw [z, upd_same] at nr; cases nr
    refine q _ r ts' (Kx.made nx ndx k1) upd_same (k0.f _ nr) (by rw [upd_ne nrx]; exact hr1) ⟨?_, fun t ht => k0.f _ (rn.new t ht), rn.ne, rn.nd⟩
    exact rn.at_.up fun t ht z => by
      have := rn.new t ht
      rw [z, upd_same] at this
      cases this
abbrev st_not_coming : Stmt := top 62
abbrev nm_not_coming : List Str := ["meeting", "hour", "answers", "people", "person"]
theorem sc_not_coming : FnScope nm_not_coming ["meeting", "hour", "answers"] (defScope st_not_coming) := C8.fnScope_by (by decide +kernel)
def sp_not_coming (K : PySem.W.Frag) : Sp := fun vs H Q _ => ∃ (a d : Addr) (o : Int) (m : Mt) (kvs : List (List Key × V)) (f : Int → Int → Option Str), vs = [.ref a, .int o, .ref d] ∧ MAt K H a m ∧ m.ps.length ≤ 8 ∧ H d = some (.dT kvs) ∧ AnsD kvs f ∧
  ∀ (H' : Hp) (r : Addr), Kx H H' → H r = none → H' r = some (.lst ((notYes m fun x => f x o).map V.int)) → Q (.ref r) H'
theorem ok_not_coming (D : DefT K mg "not_coming" st_not_coming c) (f_answer_of : C8.Cal P w K mg base 1 "answer_of" sp_answer_of []) : C8.Cal P w K mg base 2 "not_coming" (sp_not_coming K) [] := by
  refine cal_of D sc_not_coming (fun _ _ _ _ _ _ us hl => match us, hl with | [_, _, _], _ => rfl) (fun vs H Q E h => ?_) (fun fa A outer s H vs Q E hr h => ?_)
  · obtain ⟨a, d, o, m, kvs, f, rfl, _⟩ := h
    rfl
  · obtain ⟨a, d, o, m, kvs, f, rfl, ⟨p, n, ha, hp, hn⟩, h8, hd, hf, q⟩ := h
    have nd := sc_not_coming.nd
    refine ⟨_, (pss_cons (ps_set (i := 3) nd rfl (Or.inl rfl) (pe_ix ix_tup (pv 0) pe_int (fun _ _ => rfl)))
      (pss_one (ps_ret (pe_lc (own := [("person", 4)]) (g := gName 4) (by rfl) nd (pi_tup (pv 3)) (blkOk_by (own := [("person", 4)]) (N := nm_not_coming) (sc := defScope st_not_coming) (by decide +kernel)) (fun _ _ _ _ _ => pg_name (i := 4) nd rfl (Or.inl rfl)) (fun _ _ _ _ _ => pts_one (pt_cmpR op_ne (C8.pe_c f_answer_of hr (by first | decide | exact hkp) (by rfl) (pa_cons (pv 4) (pa_cons (pv 1) (pa_cons (pv 2) pa_nil)))) pe_str (nomark _))) (fun _ _ _ _ _ => (pv 4)))))), ?_⟩
    refine ⟨_, rfl, a, _, 0, .ref p, rfl, rfl, ha, rfl, ?_⟩
    refine ⟨_, rfl, p, rfl, ⟨_, hp⟩, fun D0 nD => ?_⟩
    refine lc_tup (K := K) (a := p) (xs := m.ps.map V.int) (fun i H2 => Kx H H2 ∧ H2 D0 = some (.lst (((m.ps.take i).filter fun x => !decide ((f x o).getD "no" = "yes")).map V.int)))
      ⟨Kx.new nD, upd_same⟩ (fun i H2 _ h => h.1.t hp) ?_ ?_
    · rintro i y H2 hi ⟨k2, hD2⟩
      obtain ⟨x, hx, rfl⟩ : ∃ x, m.ps[i]? = some x ∧ V.int x = y := by
        rw [List.getElem?_map] at hi
        exact Option.map_eq_some_iff.mp hi
      have e1 : m.ps.take (i + 1) = m.ps.take i ++ [x] := by rw [List.take_add_one, hx] <;> rfl
      refine ⟨rfl, _, rfl, _, rfl, _, rfl, d, x, o, kvs, f, rfl, k2.dt hd, hf, fun H3 k3 => ?_⟩
      refine ⟨rfl, _, rfl, ?_⟩
      have eb : (!decide (V.str ((f x o).getD "no") = V.str "yes")) = !decide ((f x o).getD "no" = "yes") := by
        rw [show decide (V.str ((f x o).getD "no") = V.str "yes") = decide ((f x o).getD "no" = "yes") from decide_eq_decide.mpr ⟨fun z => V.str.inj z, fun z => by rw [z]⟩]
      rw [eb]
      have hD3 := k3.lst hD2
      refine iteB (fun z => ?_) (fun z => ?_)
      · refine ⟨_, rfl, _, hD3, ?_, (k2.trans k3).mut nD, ?_⟩
        · rw [List.length_map]
          refine lt80 (Nat.lt_of_le_of_lt (List.length_filter_le _ _) ?_)
          rw [List.length_take]
          omega
        · rw [upd_same, e1, filter_snoc, if_pos (by exact z), List.map_append] <;> rfl
      · refine ⟨k2.trans k3, ?_⟩
        rw [e1, filter_snoc, if_neg (by rw [z]; exact Bool.false_ne_true), List.append_nil]
        exact hD3
    · rintro H2 ⟨k2, hD2⟩
      rw [List.length_map, List.take_length] at hD2
      exact q H2 D0 k2 nD hD2
abbrev st_first : Stmt := top 63
abbrev nm_first : List Str := ["words", "meeting", "answers", "found", "hour"]
theorem sc_first : FnScope nm_first ["words", "meeting"] (defScope st_first) := C8.fnScope_by (by decide +kernel)
/-- what first tells -/
def sp_first (K : PySem.W.Frag) (cm cc cAt cBa : Addr) : Sp := fun vs H Q _ => ∃ (l a : Addr) (ws : List Wd) (m : Mt), vs = [.ref l, .ref a] ∧ Asked K H l ws a m cm cc ∧
  (∀ (h : Int) (hs : List Int), hoursL m ["yes"] (ansF ws) = h :: hs → ∀ (H' : Hp) (x dx : Addr), Kx H H' → H x = none → H' x = some (.ins cAt dx [("hour", .int h)]) → Q (.ref x) H') ∧
  (hoursL m ["yes"] (ansF ws) = [] → ∀ (H' : Hp) (x dx r : Addr) (ts : List Addr), Kx H H' → H x = none → H' x = some (.ins cBa dx [("rows", .ref r)]) → H r = none → H' r = some (.lst (ts.map V.ref)) → RowsNew H H' r ts ((List.range 12).map fun o => notYes m fun x => ansW ws x (o : Nat)) → Q (.ref x) H')
theorem ok_first (D : DefT K mg "first" st_first c) (T : Tx K mg aA) {aY : Addr} (hY : ∀ H, SqT K H aY ((["yes"] : List Str).map V.str)) (f_checked_words : C8.Cal P w K mg base 6 "checked_words" (sp_checked_words0 K) []) (f_check_meeting : C8.Cal P w K mg base 5 "check_meeting" (sp_check_meeting K cm) [])
    (f_answers_that_count : C8.Cal P w K mg base 1 "answers_that_count" (sp_answers_that_count K) []) (f_hours_of : C8.Cal P w K mg base 3 "hours_of" (sp_hours_of K cc) [.ref aY]) (f_not_coming : C8.Cal P w K mg base 2 "not_coming" (sp_not_coming K) [])
    (k_At : C8.Mak P w K mg base 2 "At" cAt (sp_At_init cAt) []) (k_Barred : C8.Mak P w K mg base 2 "Barred" cBa (sp_Barred_init K cBa) []) : C8.Cal P w K mg base 7 "first" (sp_first K cm cc cAt cBa) [] := by
  refine cal_of D sc_first (fun _ _ _ _ _ _ us hl => match us, hl with | [_, _], _ => rfl) (fun vs H Q E h => ?_) (fun fa A outer s H vs Q E hr h => ?_)
  · obtain ⟨l, a, ws, m, rfl, _⟩ := h
    rfl
  · obtain ⟨l, a, ws, m, rfl, ask, qa, qb⟩ := h
    have nd := sc_first.nd
    refine ⟨_, (pss_cons (ps_set (i := 2) nd rfl (Or.inr rfl) (C8.pe_c f_answers_that_count hr (by first | decide | exact hkp) (by rfl) (pa_cons (C8.pe_c f_checked_words hr (by first | decide | exact hkp) (by rfl) (pa_cons (pv 0) pa_nil)) pa_nil)))
      (pss_cons (ps_expr (C8.pe_c f_check_meeting hr (by first | decide | exact hkp) (by rfl) (pa_cons (pv 1) pa_nil)))
      (pss_cons (ps_set (i := 3) nd rfl (Or.inl rfl) (C8.pe_c f_hours_of hr (by first | decide | exact hkp) (by rfl) (pa_cons (pv 1) (pa_cons (pv 2) pa_nil))))
      (pss_cons (ps_if (pt_truth (pv 3) (by intro _; rfl)) (pss_one (ps_ret (C8.pe_mk k_At hr (by first | decide | exact hkp) (by rfl) (pa_cons (pe_ix ix_list (pv 3) pe_int (fun _ _ => rfl)) pa_nil)))) pss_nil)
      (pss_one (ps_ret (C8.pe_mk k_Barred hr (by first | decide | exact hkp) (by rfl) (pa_cons (pe_lc (own := [("hour", 4)]) (g := gName 4) (tt := tYes) (by rfl) nd (pi_range1 (by rfl) T.z_range (pa_cons (C8.pe_gc (by rfl) T.c_HOURS) pa_nil)) (blkOk_by (own := [("hour", 4)]) (N := nm_first) (sc := defScope st_first) (by decide +kernel)) (fun _ _ _ _ _ => pg_name (i := 4) nd rfl (Or.inl rfl)) (fun _ _ _ _ _ => pts_nil) (fun _ _ _ _ _ => (C8.pe_c f_not_coming hr (by first | decide | exact hkp) (by rfl) (pa_cons (pv 1) (pa_cons (pv 4) (pa_cons (pv 2) pa_nil)))))) pa_nil)))))))), ?_⟩
    refine ⟨_, rfl, l, ws, rfl, ask.hw, ask.h80, ask.ok, ask.al, fun H1 r1 ts us k1 nr1 hr1 ht1 ho => ?_⟩
    have lu : us.length ≤ 200 := by
      have := once_len ho
      have := ask.h80
      omega
    have alu : Alike us := fun a ha b hb => ask.al a ((ho.mem a).mp ha) b ((ho.mem b).mp hb)
    refine ⟨r1, ts, us, rfl, sq_of hr1, ht1, lu, alu, fun H2 d kvs k2 nd2 hd2 ha2 => ?_⟩
    have ask2 := ask.k (k1.trans k2)
    refine ⟨_, rfl, a, m, rfl, ask2.hm, ask2.mok, ask2.tm, fun H3 k3 => ?_⟩
    have k03 := (k1.trans k2).trans k3
    have ask3 := ask.k k03
    have ha3 : AnsD kvs (ansW ws) := fun p o => by
      rw [ha2 p o, isAns_uniq ask.al (isAns_once ho (ansW_is us p o)) (ansW_is ws p o)]
    have hd3 := k3.dt hd2
    refine ⟨_, rfl, _, rfl, a, d, aY, m, kvs, ansW ws, ["yes"], rfl, ask3.hm, rise_len8 ask.mok.p, hd3, ha3, hY _, ask3.tc, fun H4 r k4 nr hr4 => ?_⟩
    have k04 := k03.trans k4
    show _
    change _ at hr4
    rw [show (hoursL m ["yes"] fun x o => (ansW ws x o).getD "no") = hoursL m ["yes"] (ansF ws) from rfl] at hr4
    cases hh : hoursL m ["yes"] (ansF ws) with
    | cons h hs =>
      rw [hh] at hr4
      refine ⟨_, rfl, true, .inl ⟨_, sq_of hr4, rfl⟩, iteT ?_⟩
      refine ⟨_, rfl, r, _, 0, .int h, rfl, rfl, sq_of hr4, atI_nat (xs := (h :: hs).map V.int) (j := 0) rfl, fun x dx nx ndx nxx => ?_⟩
      refine ⟨x, dx, h, rfl, upd_same, rfl, ?_⟩
      exact qa h hs hh _ x dx (Kx.trans k04 (Kx.made nx ndx (Kx.refl _))) (k04.f _ nx) upd_same
    | nil =>
      rw [hh] at hr4
      refine ⟨_, rfl, false, .inl ⟨_, sq_of hr4, rfl⟩, iteF ?_⟩
      refine ⟨12, rfl, by decide, by decide, fun D0 nD => ?_⟩
      refine lc_range (lo := 0) (n := 12) (fun i H5 => Kx H4 H5 ∧ ∃ ts : List Addr, H5 D0 = some (.lst (ts.map V.ref)) ∧ RowsAt H5 ts ((List.range i).map fun o => notYes m fun x => ansW ws x (o : Nat)) ∧ (∀ t ∈ ts, t ≠ D0) ∧ ts.length = i)
        ⟨Kx.new nD, [], upd_same, .nil, fun t h => absurd h (by simp), rfl⟩ ?_ ?_
      · rintro i H5 hi ⟨k5, ts, hD5, hts, hne, lts⟩
        have ask5 := ask.k (k04.trans k5)
        refine ⟨rfl, _, rfl, _, rfl, _, rfl, a, d, 0 + (i : Int), m, kvs, ansW ws, rfl, ask5.hm, rise_len8 ask.mok.p, (k4.trans k5).dt hd3, ha3, fun H6 t k6 nt ht => ?_⟩
        rw [show (0 : Int) + (i : Int) = ((i : Nat) : Int) from Int.zero_add _] at ht
        have hD6 := k6.lst hD5
        have ntD : t ≠ D0 := fun z => by rw [z, hD5] at nt; cases nt
        refine ⟨_, hD6, by rw [List.length_map]; exact lt80 (by omega), (k5.trans k6).mut nD, ts ++ [t], by rw [upd_same, List.map_append] <;> rfl, ?_, fun y hy => ?_, by rw [List.length_append, lts] <;> rfl⟩
        · rw [List.range_succ, List.map_append]
          refine RowsAt.up (paired_snoc (hts.k k6) ⟨ht, ?_⟩) fun y hy => ?_
          · refine Nat.le_trans (List.length_filter_le _ _) (Nat.le_trans (rise_len8 ask.mok.p) (by decide))
          · rcases List.mem_append.mp hy with hy | hy
            · exact hne y hy
            · rw [List.mem_singleton.mp hy]
              exact ntD
        · rcases List.mem_append.mp hy with hy | hy
          · exact hne y hy
          · rw [List.mem_singleton.mp hy]
            exact ntD
      · rintro H5 ⟨k5, ts, hD5, hts, hne, lts⟩
        have k05 := k04.trans k5
        intro x dx nx ndx nxx
        refine ⟨H5, x, dx, D0, ts, _, rfl, rfl, nx, ndx, nxx, sq_of hD5, hts.in_, (by rw [List.length_map, List.length_range]; decide), fun H6 r' ts' k6 hx hr' hr6 rn => ⟨rfl, ?_⟩⟩
        exact qb hh H6 x dx r' ts' (k05.trans k6) (k05.f _ nx) hx (k05.f _ hr') hr6 ⟨rn.at_, fun t ht => k05.f _ (rn.new t ht), rn.ne, rn.nd⟩
end
end CH
end

section
set_option Elab.async false
set_option linter.all false
set_option maxRecDepth 100000
set_option maxHeartbeats 4000000
namespace CH
open PySem PySem.Spec PyProof.Rows L2
open GxR (TabB TabG Tabbed)
/-- words that are none; or no words at all and no meeting -/
inductive MBad (cB cU cM : Addr) (f : Th → Bool) : Th → Th → Addr → Prop
  | w {d e : Th} {C : Addr} (h : WBad cB cU d C) : MBad cB cU cM f d e C
  | m {e : Th} (h : f e = false) : MBad cB cU cM f (.lst []) e cM
def sp_door2 (cB cU cM cm : Addr) : Sp := fun vs H _ E => ∃ (d e : Th) (v u : V) (C : Addr), vs = [v, u] ∧ At H d v ∧ At H e u ∧ MBad cB cU cM meetB d e C ∧ TabG H cm ∧ ∀ H', Kx H H' → E (.ref C) none H'
def sp_door2b (cB cU cM cm : Addr) : Sp := fun vs H _ E => ∃ (d e : Th) (v u g : V) (C : Addr), vs = [v, u, g] ∧ At H d v ∧ At H e u ∧ MBad cB cU cM meetB d e C ∧ TabG H cm ∧ ∀ H', Kx H H' → E (.ref C) none H'
inductive TBad (cB cU cM cO : Addr) : Th → Th → Th → Addr → Prop
  | w {d e o : Th} {C : Addr} (h : MBad cB cU cM meetsB d e C) : TBad cB cU cM cO d e o C
  | o {e o : Th} (h : meetsB e = true) (h2 : oldsB e.items.length o = false) : TBad cB cU cM cO (.lst []) e o cO
def sp_door3 (cB cU cM cO cm : Addr) : Sp := fun vs H _ E => ∃ (d e o : Th) (v u x : V) (C : Addr), vs = [v, u, x] ∧ At H d v ∧ At H e u ∧ At H o x ∧ TBad cB cU cM cO d e o C ∧ TabG H cm ∧ ∀ H', Kx H H' → E (.ref C) none H'
theorem once_nil {us : List Wd} (h : Once [] us) : us = [] := by
  cases us with
  | nil => rfl
  | cons u us => exact absurd ((h.mem u).mp List.mem_cons_self) List.not_mem_nil
section
variable {P : Program} {w : World} {K : PySem.W.Frag} {mg : Str → Option Value} {base : Heap} {c aA cB cU cM cO cm cMo cTi : Addr}
theorem ws_nil {H : Hp} {v : V} (h : At H (.lst []) v) : ∃ l : Addr, v = .ref l ∧ WsAt K H l [] := at_words (ws := []) h
theorem okT_hours_by (D : DefT K mg "hours_by" st_hours_by c) (T : Tx K mg aA) (f_checked_words : C8.Cal P w K mg base 6 "checked_words" (sp_checked_words0 K) []) (f_checked_wordsT : CalX P w K mg base 6 "checked_words" (sp_wbad cB cU)) (f_answers_that_count : C8.Cal P w K mg base 1 "answers_that_count" (sp_answers_that_count K) [])
    (f_check_meeting : CalX P w K mg base 5 "check_meeting" (sp_chk meetB cM cm)) : CalX P w K mg base 7 "hours_by" (sp_door2b cB cU cM cm) := by
  refine calX_of D sc_hours_by (fun _ _ _ _ _ _ us hl => match us, hl with | [_, _, _], _ => rfl) (fun vs H Q E h => ?_) (fun f A outer s H vs Q E hr h => ?_)
  · obtain ⟨d, e, v, u, g, C, rfl, _⟩ := h
    rfl
  obtain ⟨d, e, v, u, g, C, rfl, hv, hu, hb, tm, q⟩ := h
  have nd := sc_hours_by.nd
  cases hb with
  | w hb =>
    refine ⟨_, (pss_cons (ps_set (i := 3) nd rfl (Or.inl rfl) (C8.pe_c f_answers_that_count hr (by first | decide | exact hkp) (by rfl) (pa_cons (pe_cX f_checked_wordsT hr (by decide) (by rfl) (L2N.takes_of rfl rfl rfl rfl) (pa_cons (pv 0) pa_nil)) pa_nil))) pss_no), ?_⟩
    exact ⟨_, rfl, d, v, C, rfl, hv, hb, q⟩
  | m hb =>
    refine ⟨_, (pss_cons (ps_set (i := 3) nd rfl (Or.inl rfl) (C8.pe_c f_answers_that_count hr (by first | decide | exact hkp) (by rfl) (pa_cons (C8.pe_c f_checked_words hr (by first | decide | exact hkp) (by rfl) (pa_cons (pv 0) pa_nil)) pa_nil)))
      (pss_cons (ps_expr (pe_cX f_check_meeting hr (by decide) (by rfl) (L2N.takes_of rfl rfl rfl rfl) (pa_cons (pv 1) pa_nil))) pss_no)), ?_⟩
    obtain ⟨l, rfl, hw⟩ := ws_nil (K := K) hv
    refine ⟨_, rfl, l, [], rfl, hw, by decide, (fun x hx => absurd hx List.not_mem_nil), (fun a ha => absurd ha List.not_mem_nil), fun H1 r1 ts us k1 nr1 hr1 ht1 ho => ?_⟩
    obtain rfl := once_nil ho
    refine ⟨r1, ts, [], rfl, sq_of hr1, ht1, by decide, (fun a ha => absurd ha List.not_mem_nil), fun H2 d kvs k2 nd2 hd2 ha2 => ?_⟩
    have k12 := k1.trans k2
    exact ⟨_, rfl, e, u, rfl, hu.k k12, k12.g _ tm, (fun z => absurd (hb.symm.trans z) Bool.false_ne_true), fun _ H3 k3 => q H3 (k12.trans k3)⟩
theorem okT_hours (D : DefT K mg "hours" st_hours c) (T : Tx K mg aA) (f_hours_by : CalX P w K mg base 7 "hours_by" (sp_door2b cB cU cM cm)) : CalX P w K mg base 8 "hours" (sp_door2 cB cU cM cm) := by
  refine calX_of D sc_hours (fun _ _ _ _ _ _ us hl => match us, hl with | [_, _], _ => rfl) (fun vs H Q E h => ?_) (fun f A outer s H vs Q E hr h => ?_)
  · obtain ⟨d, e, v, u, C, rfl, _⟩ := h
    rfl
  obtain ⟨d, e, v, u, C, rfl, hv, hu, hb, tm, q⟩ := h
  refine ⟨_, (pss_one (ps_ret (pe_cX f_hours_by hr (by decide) (by rfl) (L2N.takes_of rfl rfl rfl rfl) (pa_cons (pv 0) (pa_cons (pv 1) (pa_cons (C8.pe_gc (by rfl) T.c_YES) pa_nil)))))), ?_⟩
  exact ⟨_, rfl, _, rfl, d, e, v, u, _, C, rfl, hv, hu, hb, tm, q⟩
theorem okT_hours_maybe (D : DefT K mg "hours_maybe" st_hours_maybe c) (T : Tx K mg aA) (f_hours_by : CalX P w K mg base 7 "hours_by" (sp_door2b cB cU cM cm)) : CalX P w K mg base 8 "hours_maybe" (sp_door2 cB cU cM cm) := by
  refine calX_of D sc_hours_maybe (fun _ _ _ _ _ _ us hl => match us, hl with | [_, _], _ => rfl) (fun vs H Q E h => ?_) (fun f A outer s H vs Q E hr h => ?_)
  · obtain ⟨d, e, v, u, C, rfl, _⟩ := h
    rfl
  obtain ⟨d, e, v, u, C, rfl, hv, hu, hb, tm, q⟩ := h
  refine ⟨_, (pss_one (ps_ret (pe_cX f_hours_by hr (by decide) (by rfl) (L2N.takes_of rfl rfl rfl rfl) (pa_cons (pv 0) (pa_cons (pv 1) (pa_cons (C8.pe_gc (by rfl) T.c_YES_OR_MAYBE) pa_nil)))))), ?_⟩
  exact ⟨_, rfl, _, rfl, d, e, v, u, _, C, rfl, hv, hu, hb, tm, q⟩
theorem okT_first (D : DefT K mg "first" st_first c) (T : Tx K mg aA) (f_checked_words : C8.Cal P w K mg base 6 "checked_words" (sp_checked_words0 K) []) (f_checked_wordsT : CalX P w K mg base 6 "checked_words" (sp_wbad cB cU)) (f_answers_that_count : C8.Cal P w K mg base 1 "answers_that_count" (sp_answers_that_count K) [])
    (f_check_meeting : CalX P w K mg base 5 "check_meeting" (sp_chk meetB cM cm)) : CalX P w K mg base 7 "first" (sp_door2 cB cU cM cm) := by
  refine calX_of D sc_first (fun _ _ _ _ _ _ us hl => match us, hl with | [_, _], _ => rfl) (fun vs H Q E h => ?_) (fun f A outer s H vs Q E hr h => ?_)
  · obtain ⟨d, e, v, u, C, rfl, _⟩ := h
    rfl
  obtain ⟨d, e, v, u, C, rfl, hv, hu, hb, tm, q⟩ := h
  have nd := sc_first.nd
  cases hb with
  | w hb =>
    refine ⟨_, (pss_cons (ps_set (i := 2) nd rfl (Or.inr rfl) (C8.pe_c f_answers_that_count hr (by first | decide | exact hkp) (by rfl) (pa_cons (pe_cX f_checked_wordsT hr (by decide) (by rfl) (L2N.takes_of rfl rfl rfl rfl) (pa_cons (pv 0) pa_nil)) pa_nil))) pss_no), ?_⟩
    exact ⟨_, rfl, d, v, C, rfl, hv, hb, q⟩
  | m hb =>
    refine ⟨_, (pss_cons (ps_set (i := 2) nd rfl (Or.inr rfl) (C8.pe_c f_answers_that_count hr (by first | decide | exact hkp) (by rfl) (pa_cons (C8.pe_c f_checked_words hr (by first | decide | exact hkp) (by rfl) (pa_cons (pv 0) pa_nil)) pa_nil)))
      (pss_cons (ps_expr (pe_cX f_check_meeting hr (by decide) (by rfl) (L2N.takes_of rfl rfl rfl rfl) (pa_cons (pv 1) pa_nil))) pss_no)), ?_⟩
    obtain ⟨l, rfl, hw⟩ := ws_nil (K := K) hv
    refine ⟨_, rfl, l, [], rfl, hw, by decide, (fun x hx => absurd hx List.not_mem_nil), (fun a ha => absurd ha List.not_mem_nil), fun H1 r1 ts us k1 nr1 hr1 ht1 ho => ?_⟩
    obtain rfl := once_nil ho
    refine ⟨r1, ts, [], rfl, sq_of hr1, ht1, by decide, (fun a ha => absurd ha List.not_mem_nil), fun H2 d kvs k2 nd2 hd2 ha2 => ?_⟩
    have k12 := k1.trans k2
    exact ⟨_, rfl, e, u, rfl, hu.k k12, k12.g _ tm, (fun z => absurd (hb.symm.trans z) Bool.false_ne_true), fun _ H3 k3 => q H3 (k12.trans k3)⟩
theorem okT_table (D : DefT K mg "table" st_table c) (T : Tx K mg aA) (f_checked_words : C8.Cal P w K mg base 6 "checked_words" (sp_checked_words0 K) []) (f_checked_wordsT : CalX P w K mg base 6 "checked_words" (sp_wbad cB cU))
    (f_check_meetings : CalX P w K mg base 6 "check_meetings" (sp_chk meetsB cM cm)) (f_check_olds : CalX P w K mg base 4 "check_olds" (sp_oldsT cO)) : CalX P w K mg base 7 "table" (sp_door3 cB cU cM cO cm) := by
  refine calX_of D sc_table (fun _ _ _ _ _ _ us hl => match us, hl with | [_, _, _], _ => rfl) (fun vs H Q E h => ?_) (fun f A outer s H vs Q E hr h => ?_)
  · obtain ⟨d, e, o, v, u, x, C, rfl, _⟩ := h
    rfl
  obtain ⟨d, e, o, v, u, x, C, rfl, hv, hu, hx, hb, tm, q⟩ := h
  have nd := sc_table.nd
  have hw0 : At H (.lst []) v → ∃ l : Addr, v = .ref l ∧ WsAt K H l [] := fun z => ws_nil (K := K) z
  cases hb with
  | w hb =>
    cases hb with
    | w hb =>
      refine ⟨_, (pss_cons (ps_set (i := 3) nd rfl (Or.inl rfl) (pe_cX f_checked_wordsT hr (by decide) (by rfl) (L2N.takes_of rfl rfl rfl rfl) (pa_cons (pv 0) pa_nil))) pss_no), ?_⟩
      exact ⟨_, rfl, d, v, C, rfl, hv, hb, q⟩
    | m hb =>
      refine ⟨_, (pss_cons (ps_set (i := 3) nd rfl (Or.inl rfl) (C8.pe_c f_checked_words hr (by first | decide | exact hkp) (by rfl) (pa_cons (pv 0) pa_nil)))
      (pss_cons (ps_expr (pe_cX f_check_meetings hr (by decide) (by rfl) (L2N.takes_of rfl rfl rfl rfl) (pa_cons (pv 1) pa_nil))) pss_no)), ?_⟩
      obtain ⟨l, rfl, hw⟩ := hw0 hv
      refine ⟨_, rfl, l, [], rfl, hw, by decide, (fun x hx => absurd hx List.not_mem_nil), (fun a ha => absurd ha List.not_mem_nil), fun H1 r1 ts us k1 nr1 hr1 ht1 ho => ?_⟩
      exact ⟨_, rfl, e, u, rfl, hu.k k1, k1.g _ tm, (fun z => absurd (hb.symm.trans z) Bool.false_ne_true), fun _ H3 k3 => q H3 (k1.trans k3)⟩
  | o hm hb =>
    refine ⟨_, (pss_cons (ps_set (i := 3) nd rfl (Or.inl rfl) (C8.pe_c f_checked_words hr (by first | decide | exact hkp) (by rfl) (pa_cons (pv 0) pa_nil)))
      (pss_cons (ps_expr (pe_cX f_check_meetings hr (by decide) (by rfl) (L2N.takes_of rfl rfl rfl rfl) (pa_cons (pv 1) pa_nil)))
      (pss_cons (ps_expr (pe_cX f_check_olds hr (by decide) (by rfl) (L2N.takes_of rfl rfl rfl rfl) (pa_cons (pv 2) (pa_cons (pe_callB call_len_seq (by rfl) T.z_len PySem.boot_len (pa_cons (pv 1) pa_nil)) pa_nil)))) pss_no))), ?_⟩
    obtain ⟨l, rfl, hw⟩ := hw0 hv
    refine ⟨_, rfl, l, [], rfl, hw, by decide, (fun x hx => absurd hx List.not_mem_nil), (fun a ha => absurd ha List.not_mem_nil), fun H1 r1 ts us k1 nr1 hr1 ht1 ho => ?_⟩
    refine ⟨_, rfl, e, u, rfl, hu.k k1, k1.g _ tm, fun _ H2 k2 => ?_, (fun z => absurd (hm.symm.trans z).symm Bool.false_ne_true)⟩
    have k12 := k1.trans k2
    have heL : e.isL = true := by
      cases z : e.isL with
      | true => rfl
      | false => rw [meetsB_not z] at hm; cases hm
    obtain ⟨es, rfl⟩ := isL_lst heL
    obtain ⟨le, ye, rfl, hle, hye⟩ := hu.k k12
    have ly : ye.length = (Th.lst es).items.length := hye.len
    refine ⟨_, rfl, _, rfl, le, _, rfl, .inl (sq_of hle), o, x, ye.length, rfl, hx.k k12, fun z => ?_, fun _ => q _ k12⟩
    rw [ly] at z
    exact absurd (hb.symm.trans z) Bool.false_ne_true
end
end CH
end

section
set_option Elab.async false
set_option linter.all false
set_option maxRecDepth 100000
set_option maxHeartbeats 4000000
namespace CH
open PySem PySem.Spec PyProof.Rows L2
open GxR (TabB TabG Tabbed)
section
variable {P : Program} {w : World} {K : PySem.W.Frag} {mg : Str → Option Value} {base : Heap} {c aA : Addr}
abbrev st_law_tables_right : Stmt := top 72
abbrev nm_law_tables_right : List Str := ["_law_more", "_law_bad", "_law_book", "_law_asks", "_law_unlike", "_law_good", "_law_olds", "_law_one"]
theorem sc_law_tables_right : FnScope nm_law_tables_right ["_law_more"] (defScope st_law_tables_right) := C8.fnScope_by (by decide +kernel)
abbrev lam_law_tables_right_0 : Expr := (kidE (kidS ((defBody st_law_tables_right).getD 1 (.Pass ⟨0, 0, 0, 0⟩))) 0)
abbrev nml_law_tables_right_0 : List Str := ["_law_one"]
theorem scl_law_tables_right_0 : NdefX.NScope nml_law_tables_right_0 ["_law_one"] [] (lamS (defScope st_law_tables_right) lam_law_tables_right_0) := ⟨by decide +kernel, by decide +kernel, by decide +kernel, by decide +kernel, by decide +kernel, by decide +kernel, by decide +kernel, by decide +kernel, by decide +kernel⟩
theorem lfr_law_tables_right_0 : ∀ y ∈ (lamS (defScope st_law_tables_right) lam_law_tables_right_0).names, y.2 = NameKind.free → (defScope st_law_tables_right).names.lookup y.1 = some .cell ∨ (defScope st_law_tables_right).names.lookup y.1 = some .free := by decide +kernel
def mkl_law_tables_right_0 (q : Str) (cl : List (Str × Addr)) (c : Addr) : LF := ⟨q, lamP lam_law_tables_right_0, lamB lam_law_tables_right_0, lamS (defScope st_law_tables_right) lam_law_tables_right_0, cl, c⟩
def mkn_law_tables_right_0 (m : Nat) (c : Addr) : LF := mkl_law_tables_right_0 (qlam "_law_tables_right") (cloFrom (cellsFrom (m + 1) (defScope st_law_tables_right).names []) (lamS (defScope st_law_tables_right) lam_law_tables_right_0).names []) c
theorem mko_law_tables_right_0 (m : Nat) : ∀ c', (mkn_law_tables_right_0 m c').qual = qlam "_law_tables_right" ∧ (mkn_law_tables_right_0 m c').c = c' := fun _ => ⟨rfl, rfl⟩
/- 0: lambda _law_one: joined(_law_one, []) -/
abbrev lam_law_tables_right_1 : Expr := (kidE (kidS ((defBody st_law_tables_right).getD 1 (.Pass ⟨0, 0, 0, 0⟩))) 1)
abbrev nml_law_tables_right_1 : List Str := ["_law_two"]
theorem scl_law_tables_right_1 : NdefX.NScope nml_law_tables_right_1 ["_law_two"] [] (lamS (defScope st_law_tables_right) lam_law_tables_right_1) := ⟨by decide +kernel, by decide +kernel, by decide +kernel, by decide +kernel, by decide +kernel, by decide +kernel, by decide +kernel, by decide +kernel, by decide +kernel⟩
theorem lfr_law_tables_right_1 : ∀ y ∈ (lamS (defScope st_law_tables_right) lam_law_tables_right_1).names, y.2 = NameKind.free → (defScope st_law_tables_right).names.lookup y.1 = some .cell ∨ (defScope st_law_tables_right).names.lookup y.1 = some .free := by decide +kernel
def mkl_law_tables_right_1 (q : Str) (cl : List (Str × Addr)) (c : Addr) : LF := ⟨q, lamP lam_law_tables_right_1, lamB lam_law_tables_right_1, lamS (defScope st_law_tables_right) lam_law_tables_right_1, cl, c⟩
def mkn_law_tables_right_1 (m : Nat) (c : Addr) : LF := mkl_law_tables_right_1 (qlam "_law_tables_right") (cloFrom (cellsFrom (m + 1) (defScope st_law_tables_right).names []) (lamS (defScope st_law_tables_right) lam_law_tables_right_1).names []) c
theorem mko_law_tables_right_1 (m : Nat) : ∀ c', (mkn_law_tables_right_1 m c').qual = qlam "_law_tables_right" ∧ (mkn_law_tables_right_1 m c').c = c' := fun _ => ⟨rfl, rfl⟩
/- 1: lambda _law_two: joined([], _law_two) -/
abbrev lam_law_tables_right_2 : Expr := (kidE (kidS ((defBody st_law_tables_right).getD 1 (.Pass ⟨0, 0, 0, 0⟩))) 2)
abbrev nml_law_tables_right_2 : List Str := ["_law_this"]
theorem scl_law_tables_right_2 : NdefX.NScope nml_law_tables_right_2 ["_law_this"] [] (lamS (defScope st_law_tables_right) lam_law_tables_right_2) := ⟨by decide +kernel, by decide +kernel, by decide +kernel, by decide +kernel, by decide +kernel, by decide +kernel, by decide +kernel, by decide +kernel, by decide +kernel⟩
theorem lfr_law_tables_right_2 : ∀ y ∈ (lamS (defScope st_law_tables_right) lam_law_tables_right_2).names, y.2 = NameKind.free → (defScope st_law_tables_right).names.lookup y.1 = some .cell ∨ (defScope st_law_tables_right).names.lookup y.1 = some .free := by decide +kernel
def mkl_law_tables_right_2 (q : Str) (cl : List (Str × Addr)) (c : Addr) : LF := ⟨q, lamP lam_law_tables_right_2, lamB lam_law_tables_right_2, lamS (defScope st_law_tables_right) lam_law_tables_right_2, cl, c⟩
def mkn_law_tables_right_2 (m : Nat) (c : Addr) : LF := mkl_law_tables_right_2 (qlam "_law_tables_right") (cloFrom (cellsFrom (m + 1) (defScope st_law_tables_right).names []) (lamS (defScope st_law_tables_right) lam_law_tables_right_2).names []) c
theorem mko_law_tables_right_2 (m : Nat) : ∀ c', (mkn_law_tables_right_2 m c').qual = qlam "_law_tables_right" ∧ (mkn_law_tables_right_2 m c').c = c' := fun _ => ⟨rfl, rfl⟩
/- 2: lambda _law_this: hours(_law_this, None) -/
abbrev lam_law_tables_right_3 : Expr := (kidE (kidE (kidS ((defBody st_law_tables_right).getD 2 (.Pass ⟨0, 0, 0, 0⟩))) 1) 0)
abbrev nml_law_tables_right_3 : List Str := ["_law_that"]
theorem scl_law_tables_right_3 : NdefX.NScope nml_law_tables_right_3 ["_law_that"] [] (lamS (defScope st_law_tables_right) lam_law_tables_right_3) := ⟨by decide +kernel, by decide +kernel, by decide +kernel, by decide +kernel, by decide +kernel, by decide +kernel, by decide +kernel, by decide +kernel, by decide +kernel⟩
theorem lfr_law_tables_right_3 : ∀ y ∈ (lamS (defScope st_law_tables_right) lam_law_tables_right_3).names, y.2 = NameKind.free → (defScope st_law_tables_right).names.lookup y.1 = some .cell ∨ (defScope st_law_tables_right).names.lookup y.1 = some .free := by decide +kernel
def mkl_law_tables_right_3 (q : Str) (cl : List (Str × Addr)) (c : Addr) : LF := ⟨q, lamP lam_law_tables_right_3, lamB lam_law_tables_right_3, lamS (defScope st_law_tables_right) lam_law_tables_right_3, cl, c⟩
def mkn_law_tables_right_3 (m : Nat) (c : Addr) : LF := mkl_law_tables_right_3 (qlam "_law_tables_right") (cloFrom (cellsFrom (m + 1) (defScope st_law_tables_right).names []) (lamS (defScope st_law_tables_right) lam_law_tables_right_3).names []) c
theorem mko_law_tables_right_3 (m : Nat) : ∀ c', (mkn_law_tables_right_3 m c').qual = qlam "_law_tables_right" ∧ (mkn_law_tables_right_3 m c').c = c' := fun _ => ⟨rfl, rfl⟩
/- 3: lambda _law_that: hours_maybe(_law_that, None) -/
abbrev lam_law_tables_right_4 : Expr := (kidE (kidE (kidS ((defBody st_law_tables_right).getD 2 (.Pass ⟨0, 0, 0, 0⟩))) 1) 1)
abbrev nml_law_tables_right_4 : List Str := ["_law_far"]
theorem scl_law_tables_right_4 : NdefX.NScope nml_law_tables_right_4 ["_law_far"] [] (lamS (defScope st_law_tables_right) lam_law_tables_right_4) := ⟨by decide +kernel, by decide +kernel, by decide +kernel, by decide +kernel, by decide +kernel, by decide +kernel, by decide +kernel, by decide +kernel, by decide +kernel⟩
theorem lfr_law_tables_right_4 : ∀ y ∈ (lamS (defScope st_law_tables_right) lam_law_tables_right_4).names, y.2 = NameKind.free → (defScope st_law_tables_right).names.lookup y.1 = some .cell ∨ (defScope st_law_tables_right).names.lookup y.1 = some .free := by decide +kernel
def mkl_law_tables_right_4 (q : Str) (cl : List (Str × Addr)) (c : Addr) : LF := ⟨q, lamP lam_law_tables_right_4, lamB lam_law_tables_right_4, lamS (defScope st_law_tables_right) lam_law_tables_right_4, cl, c⟩
def mkn_law_tables_right_4 (m : Nat) (c : Addr) : LF := mkl_law_tables_right_4 (qlam "_law_tables_right") (cloFrom (cellsFrom (m + 1) (defScope st_law_tables_right).names []) (lamS (defScope st_law_tables_right) lam_law_tables_right_4).names []) c
theorem mko_law_tables_right_4 (m : Nat) : ∀ c', (mkn_law_tables_right_4 m c').qual = qlam "_law_tables_right" ∧ (mkn_law_tables_right_4 m c').c = c' := fun _ => ⟨rfl, rfl⟩
/- 4: lambda _law_far: first(_law_far, None) -/
abbrev lam_law_tables_right_5 : Expr := (kidE (kidS ((defBody st_law_tables_right).getD 3 (.Pass ⟨0, 0, 0, 0⟩))) 0)
abbrev nml_law_tables_right_5 : List Str := ["_law_near"]
theorem scl_law_tables_right_5 : NdefX.NScope nml_law_tables_right_5 ["_law_near"] [] (lamS (defScope st_law_tables_right) lam_law_tables_right_5) := ⟨by decide +kernel, by decide +kernel, by decide +kernel, by decide +kernel, by decide +kernel, by decide +kernel, by decide +kernel, by decide +kernel, by decide +kernel⟩
theorem lfr_law_tables_right_5 : ∀ y ∈ (lamS (defScope st_law_tables_right) lam_law_tables_right_5).names, y.2 = NameKind.free → (defScope st_law_tables_right).names.lookup y.1 = some .cell ∨ (defScope st_law_tables_right).names.lookup y.1 = some .free := by decide +kernel
def mkl_law_tables_right_5 (q : Str) (cl : List (Str × Addr)) (c : Addr) : LF := ⟨q, lamP lam_law_tables_right_5, lamB lam_law_tables_right_5, lamS (defScope st_law_tables_right) lam_law_tables_right_5, cl, c⟩
def mkn_law_tables_right_5 (m : Nat) (c : Addr) : LF := mkl_law_tables_right_5 (qlam "_law_tables_right") (cloFrom (cellsFrom (m + 1) (defScope st_law_tables_right).names []) (lamS (defScope st_law_tables_right) lam_law_tables_right_5).names []) c
theorem mko_law_tables_right_5 (m : Nat) : ∀ c', (mkn_law_tables_right_5 m c').qual = qlam "_law_tables_right" ∧ (mkn_law_tables_right_5 m c').c = c' := fun _ => ⟨rfl, rfl⟩
/- 5: lambda _law_near: table(_law_near, None, None) -/
abbrev lam_law_tables_right_6 : Expr := (kidE (kidE (kidE (kidE (kidE (kidS ((defBody st_law_tables_right).getD 4 (.Pass ⟨0, 0, 0, 0⟩))) 0) 0) 0) 1) 0)
abbrev nml_law_tables_right_6 : List Str := ["_law_here", "_law_book"]
theorem scl_law_tables_right_6 : NdefX.NScope nml_law_tables_right_6 ["_law_here"] ["_law_book"] (lamS (defScope st_law_tables_right) lam_law_tables_right_6) := ⟨by decide +kernel, by decide +kernel, by decide +kernel, by decide +kernel, by decide +kernel, by decide +kernel, by decide +kernel, by decide +kernel, by decide +kernel⟩
theorem lfr_law_tables_right_6 : ∀ y ∈ (lamS (defScope st_law_tables_right) lam_law_tables_right_6).names, y.2 = NameKind.free → (defScope st_law_tables_right).names.lookup y.1 = some .cell ∨ (defScope st_law_tables_right).names.lookup y.1 = some .free := by decide +kernel
def mkl_law_tables_right_6 (q : Str) (cl : List (Str × Addr)) (c : Addr) : LF := ⟨q, lamP lam_law_tables_right_6, lamB lam_law_tables_right_6, lamS (defScope st_law_tables_right) lam_law_tables_right_6, cl, c⟩
def mkn_law_tables_right_6 (m : Nat) (c : Addr) : LF := mkl_law_tables_right_6 (qlam "_law_tables_right") (cloFrom (cellsFrom (m + 1) (defScope st_law_tables_right).names []) (lamS (defScope st_law_tables_right) lam_law_tables_right_6).names []) c
theorem mko_law_tables_right_6 (m : Nat) : ∀ c', (mkn_law_tables_right_6 m c').qual = qlam "_law_tables_right" ∧ (mkn_law_tables_right_6 m c').c = c' := fun _ => ⟨rfl, rfl⟩
/- 6: lambda _law_here: _law_book.hear(_law_here) -/
abbrev lam_law_tables_right_7 : Expr := (kidE (kidE (kidE (kidE (kidE (kidS ((defBody st_law_tables_right).getD 6 (.Pass ⟨0, 0, 0, 0⟩))) 0) 0) 0) 1) 0)
abbrev nml_law_tables_right_7 : List Str := ["_law_here", "_law_book"]
theorem scl_law_tables_right_7 : NdefX.NScope nml_law_tables_right_7 ["_law_here"] ["_law_book"] (lamS (defScope st_law_tables_right) lam_law_tables_right_7) := ⟨by decide +kernel, by decide +kernel, by decide +kernel, by decide +kernel, by decide +kernel, by decide +kernel, by decide +kernel, by decide +kernel, by decide +kernel⟩
theorem lfr_law_tables_right_7 : ∀ y ∈ (lamS (defScope st_law_tables_right) lam_law_tables_right_7).names, y.2 = NameKind.free → (defScope st_law_tables_right).names.lookup y.1 = some .cell ∨ (defScope st_law_tables_right).names.lookup y.1 = some .free := by decide +kernel
def mkl_law_tables_right_7 (q : Str) (cl : List (Str × Addr)) (c : Addr) : LF := ⟨q, lamP lam_law_tables_right_7, lamB lam_law_tables_right_7, lamS (defScope st_law_tables_right) lam_law_tables_right_7, cl, c⟩
def mkn_law_tables_right_7 (m : Nat) (c : Addr) : LF := mkl_law_tables_right_7 (qlam "_law_tables_right") (cloFrom (cellsFrom (m + 1) (defScope st_law_tables_right).names []) (lamS (defScope st_law_tables_right) lam_law_tables_right_7).names []) c
theorem mko_law_tables_right_7 (m : Nat) : ∀ c', (mkn_law_tables_right_7 m c').qual = qlam "_law_tables_right" ∧ (mkn_law_tables_right_7 m c').c = c' := fun _ => ⟨rfl, rfl⟩
/- 7: lambda _law_here: _law_book.hear(_law_here) -/
abbrev lam_law_tables_right_8 : Expr := (kidE (kidS ((defBody st_law_tables_right).getD 7 (.Pass ⟨0, 0, 0, 0⟩))) 0)
abbrev nml_law_tables_right_8 : List Str := ["_law_one"]
theorem scl_law_tables_right_8 : NdefX.NScope nml_law_tables_right_8 ["_law_one"] [] (lamS (defScope st_law_tables_right) lam_law_tables_right_8) := ⟨by decide +kernel, by decide +kernel, by decide +kernel, by decide +kernel, by decide +kernel, by decide +kernel, by decide +kernel, by decide +kernel, by decide +kernel⟩
theorem lfr_law_tables_right_8 : ∀ y ∈ (lamS (defScope st_law_tables_right) lam_law_tables_right_8).names, y.2 = NameKind.free → (defScope st_law_tables_right).names.lookup y.1 = some .cell ∨ (defScope st_law_tables_right).names.lookup y.1 = some .free := by decide +kernel
def mkl_law_tables_right_8 (q : Str) (cl : List (Str × Addr)) (c : Addr) : LF := ⟨q, lamP lam_law_tables_right_8, lamB lam_law_tables_right_8, lamS (defScope st_law_tables_right) lam_law_tables_right_8, cl, c⟩
def mkn_law_tables_right_8 (m : Nat) (c : Addr) : LF := mkl_law_tables_right_8 (qlam "_law_tables_right") (cloFrom (cellsFrom (m + 1) (defScope st_law_tables_right).names []) (lamS (defScope st_law_tables_right) lam_law_tables_right_8).names []) c
theorem mko_law_tables_right_8 (m : Nat) : ∀ c', (mkn_law_tables_right_8 m c').qual = qlam "_law_tables_right" ∧ (mkn_law_tables_right_8 m c').c = c' := fun _ => ⟨rfl, rfl⟩
/- 8: lambda _law_one: hours([], _law_one) -/
abbrev lam_law_tables_right_9 : Expr := (kidE (kidS ((defBody st_law_tables_right).getD 7 (.Pass ⟨0, 0, 0, 0⟩))) 1)
abbrev nml_law_tables_right_9 : List Str := ["_law_two"]
theorem scl_law_tables_right_9 : NdefX.NScope nml_law_tables_right_9 ["_law_two"] [] (lamS (defScope st_law_tables_right) lam_law_tables_right_9) := ⟨by decide +kernel, by decide +kernel, by decide +kernel, by decide +kernel, by decide +kernel, by decide +kernel, by decide +kernel, by decide +kernel, by decide +kernel⟩
theorem lfr_law_tables_right_9 : ∀ y ∈ (lamS (defScope st_law_tables_right) lam_law_tables_right_9).names, y.2 = NameKind.free → (defScope st_law_tables_right).names.lookup y.1 = some .cell ∨ (defScope st_law_tables_right).names.lookup y.1 = some .free := by decide +kernel
def mkl_law_tables_right_9 (q : Str) (cl : List (Str × Addr)) (c : Addr) : LF := ⟨q, lamP lam_law_tables_right_9, lamB lam_law_tables_right_9, lamS (defScope st_law_tables_right) lam_law_tables_right_9, cl, c⟩
def mkn_law_tables_right_9 (m : Nat) (c : Addr) : LF := mkl_law_tables_right_9 (qlam "_law_tables_right") (cloFrom (cellsFrom (m + 1) (defScope st_law_tables_right).names []) (lamS (defScope st_law_tables_right) lam_law_tables_right_9).names []) c
theorem mko_law_tables_right_9 (m : Nat) : ∀ c', (mkn_law_tables_right_9 m c').qual = qlam "_law_tables_right" ∧ (mkn_law_tables_right_9 m c').c = c' := fun _ => ⟨rfl, rfl⟩
/- 9: lambda _law_two: hours_maybe([], _law_two) -/
abbrev lam_law_tables_right_10 : Expr := (kidE (kidS ((defBody st_law_tables_right).getD 7 (.Pass ⟨0, 0, 0, 0⟩))) 2)
abbrev nml_law_tables_right_10 : List Str := ["_law_this"]
theorem scl_law_tables_right_10 : NdefX.NScope nml_law_tables_right_10 ["_law_this"] [] (lamS (defScope st_law_tables_right) lam_law_tables_right_10) := ⟨by decide +kernel, by decide +kernel, by decide +kernel, by decide +kernel, by decide +kernel, by decide +kernel, by decide +kernel, by decide +kernel, by decide +kernel⟩
theorem lfr_law_tables_right_10 : ∀ y ∈ (lamS (defScope st_law_tables_right) lam_law_tables_right_10).names, y.2 = NameKind.free → (defScope st_law_tables_right).names.lookup y.1 = some .cell ∨ (defScope st_law_tables_right).names.lookup y.1 = some .free := by decide +kernel
def mkl_law_tables_right_10 (q : Str) (cl : List (Str × Addr)) (c : Addr) : LF := ⟨q, lamP lam_law_tables_right_10, lamB lam_law_tables_right_10, lamS (defScope st_law_tables_right) lam_law_tables_right_10, cl, c⟩
def mkn_law_tables_right_10 (m : Nat) (c : Addr) : LF := mkl_law_tables_right_10 (qlam "_law_tables_right") (cloFrom (cellsFrom (m + 1) (defScope st_law_tables_right).names []) (lamS (defScope st_law_tables_right) lam_law_tables_right_10).names []) c
theorem mko_law_tables_right_10 (m : Nat) : ∀ c', (mkn_law_tables_right_10 m c').qual = qlam "_law_tables_right" ∧ (mkn_law_tables_right_10 m c').c = c' := fun _ => ⟨rfl, rfl⟩
/- 10: lambda _law_this: first([], _law_this) -/
abbrev lam_law_tables_right_11 : Expr := (kidE (kidE (kidS ((defBody st_law_tables_right).getD 8 (.Pass ⟨0, 0, 0, 0⟩))) 1) 0)
abbrev nml_law_tables_right_11 : List Str := ["_law_that"]
theorem scl_law_tables_right_11 : NdefX.NScope nml_law_tables_right_11 ["_law_that"] [] (lamS (defScope st_law_tables_right) lam_law_tables_right_11) := ⟨by decide +kernel, by decide +kernel, by decide +kernel, by decide +kernel, by decide +kernel, by decide +kernel, by decide +kernel, by decide +kernel, by decide +kernel⟩
theorem lfr_law_tables_right_11 : ∀ y ∈ (lamS (defScope st_law_tables_right) lam_law_tables_right_11).names, y.2 = NameKind.free → (defScope st_law_tables_right).names.lookup y.1 = some .cell ∨ (defScope st_law_tables_right).names.lookup y.1 = some .free := by decide +kernel
def mkl_law_tables_right_11 (q : Str) (cl : List (Str × Addr)) (c : Addr) : LF := ⟨q, lamP lam_law_tables_right_11, lamB lam_law_tables_right_11, lamS (defScope st_law_tables_right) lam_law_tables_right_11, cl, c⟩
def mkn_law_tables_right_11 (m : Nat) (c : Addr) : LF := mkl_law_tables_right_11 (qlam "_law_tables_right") (cloFrom (cellsFrom (m + 1) (defScope st_law_tables_right).names []) (lamS (defScope st_law_tables_right) lam_law_tables_right_11).names []) c
theorem mko_law_tables_right_11 (m : Nat) : ∀ c', (mkn_law_tables_right_11 m c').qual = qlam "_law_tables_right" ∧ (mkn_law_tables_right_11 m c').c = c' := fun _ => ⟨rfl, rfl⟩
/- 11: lambda _law_that: table([], [_law_that], None) -/
abbrev lam_law_tables_right_12 : Expr := (kidE (kidE (kidS ((defBody st_law_tables_right).getD 8 (.Pass ⟨0, 0, 0, 0⟩))) 1) 1)
abbrev nml_law_tables_right_12 : List Str := ["_law_far"]
theorem scl_law_tables_right_12 : NdefX.NScope nml_law_tables_right_12 ["_law_far"] [] (lamS (defScope st_law_tables_right) lam_law_tables_right_12) := ⟨by decide +kernel, by decide +kernel, by decide +kernel, by decide +kernel, by decide +kernel, by decide +kernel, by decide +kernel, by decide +kernel, by decide +kernel⟩
theorem lfr_law_tables_right_12 : ∀ y ∈ (lamS (defScope st_law_tables_right) lam_law_tables_right_12).names, y.2 = NameKind.free → (defScope st_law_tables_right).names.lookup y.1 = some .cell ∨ (defScope st_law_tables_right).names.lookup y.1 = some .free := by decide +kernel
def mkl_law_tables_right_12 (q : Str) (cl : List (Str × Addr)) (c : Addr) : LF := ⟨q, lamP lam_law_tables_right_12, lamB lam_law_tables_right_12, lamS (defScope st_law_tables_right) lam_law_tables_right_12, cl, c⟩
def mkn_law_tables_right_12 (m : Nat) (c : Addr) : LF := mkl_law_tables_right_12 (qlam "_law_tables_right") (cloFrom (cellsFrom (m + 1) (defScope st_law_tables_right).names []) (lamS (defScope st_law_tables_right) lam_law_tables_right_12).names []) c
theorem mko_law_tables_right_12 (m : Nat) : ∀ c', (mkn_law_tables_right_12 m c').qual = qlam "_law_tables_right" ∧ (mkn_law_tables_right_12 m c').c = c' := fun _ => ⟨rfl, rfl⟩
/- 12: lambda _law_far: table([], [((0,), 1, ())] * 5 + [_law_far], None) -/
abbrev lam_law_tables_right_13 : Expr := (kidE (kidE (kidE (kidS ((defBody st_law_tables_right).getD 11 (.Pass ⟨0, 0, 0, 0⟩))) 0) 0) 0)
abbrev nml_law_tables_right_13 : List Str := ["_law_some"]
theorem scl_law_tables_right_13 : NdefX.NScope nml_law_tables_right_13 ["_law_some"] [] (lamS (defScope st_law_tables_right) lam_law_tables_right_13) := ⟨by decide +kernel, by decide +kernel, by decide +kernel, by decide +kernel, by decide +kernel, by decide +kernel, by decide +kernel, by decide +kernel, by decide +kernel⟩
theorem lfr_law_tables_right_13 : ∀ y ∈ (lamS (defScope st_law_tables_right) lam_law_tables_right_13).names, y.2 = NameKind.free → (defScope st_law_tables_right).names.lookup y.1 = some .cell ∨ (defScope st_law_tables_right).names.lookup y.1 = some .free := by decide +kernel
def mkl_law_tables_right_13 (q : Str) (cl : List (Str × Addr)) (c : Addr) : LF := ⟨q, lamP lam_law_tables_right_13, lamB lam_law_tables_right_13, lamS (defScope st_law_tables_right) lam_law_tables_right_13, cl, c⟩
def mkn_law_tables_right_13 (m : Nat) (c : Addr) : LF := mkl_law_tables_right_13 (qlam "_law_tables_right") (cloFrom (cellsFrom (m + 1) (defScope st_law_tables_right).names []) (lamS (defScope st_law_tables_right) lam_law_tables_right_13).names []) c
theorem mko_law_tables_right_13 (m : Nat) : ∀ c', (mkn_law_tables_right_13 m c').qual = qlam "_law_tables_right" ∧ (mkn_law_tables_right_13 m c').c = c' := fun _ => ⟨rfl, rfl⟩
/- 13: lambda _law_some: table([], _law_some, None) -/
abbrev lam_law_tables_right_14 : Expr := (kidE (kidE (kidS ((defBody st_law_tables_right).getD 14 (.Pass ⟨0, 0, 0, 0⟩))) 0) 0)
abbrev nml_law_tables_right_14 : List Str := ["_law_old", "_law_good"]
theorem scl_law_tables_right_14 : NdefX.NScope nml_law_tables_right_14 ["_law_old"] ["_law_good"] (lamS (defScope st_law_tables_right) lam_law_tables_right_14) := ⟨by decide +kernel, by decide +kernel, by decide +kernel, by decide +kernel, by decide +kernel, by decide +kernel, by decide +kernel, by decide +kernel, by decide +kernel⟩
theorem lfr_law_tables_right_14 : ∀ y ∈ (lamS (defScope st_law_tables_right) lam_law_tables_right_14).names, y.2 = NameKind.free → (defScope st_law_tables_right).names.lookup y.1 = some .cell ∨ (defScope st_law_tables_right).names.lookup y.1 = some .free := by decide +kernel
def mkl_law_tables_right_14 (q : Str) (cl : List (Str × Addr)) (c : Addr) : LF := ⟨q, lamP lam_law_tables_right_14, lamB lam_law_tables_right_14, lamS (defScope st_law_tables_right) lam_law_tables_right_14, cl, c⟩
def mkn_law_tables_right_14 (m : Nat) (c : Addr) : LF := mkl_law_tables_right_14 (qlam "_law_tables_right") (cloFrom (cellsFrom (m + 1) (defScope st_law_tables_right).names []) (lamS (defScope st_law_tables_right) lam_law_tables_right_14).names []) c
theorem mko_law_tables_right_14 (m : Nat) : ∀ c', (mkn_law_tables_right_14 m c').qual = qlam "_law_tables_right" ∧ (mkn_law_tables_right_14 m c').c = c' := fun _ => ⟨rfl, rfl⟩
/- 14: lambda _law_old: table([], [_law_good, _law_good], _law_old) -/
abbrev st_law_book_right : Stmt := top 73
abbrev nm_law_book_right : List Str := ["_law_more", "_law_book", "_law_before", "_law_asks", "_law_words", "_law_at", "_law_far"]
theorem sc_law_book_right : FnScope nm_law_book_right ["_law_more"] (defScope st_law_book_right) := C8.fnScope_by (by decide +kernel)
abbrev lam_law_book_right_0 : Expr := (kidE (kidE (kidE (kidS ((defBody st_law_book_right).getD 0 (.Pass ⟨0, 0, 0, 0⟩))) 0) 0) 0)
abbrev nml_law_book_right_0 : List Str := ["_law_hand"]
theorem scl_law_book_right_0 : NdefX.NScope nml_law_book_right_0 ["_law_hand"] [] (lamS (defScope st_law_book_right) lam_law_book_right_0) := ⟨by decide +kernel, by decide +kernel, by decide +kernel, by decide +kernel, by decide +kernel, by decide +kernel, by decide +kernel, by decide +kernel, by decide +kernel⟩
theorem lfr_law_book_right_0 : ∀ y ∈ (lamS (defScope st_law_book_right) lam_law_book_right_0).names, y.2 = NameKind.free → (defScope st_law_book_right).names.lookup y.1 = some .cell ∨ (defScope st_law_book_right).names.lookup y.1 = some .free := by decide +kernel
def mkl_law_book_right_0 (q : Str) (cl : List (Str × Addr)) (c : Addr) : LF := ⟨q, lamP lam_law_book_right_0, lamB lam_law_book_right_0, lamS (defScope st_law_book_right) lam_law_book_right_0, cl, c⟩
def mkn_law_book_right_0 (m : Nat) (c : Addr) : LF := mkl_law_book_right_0 (qlam "_law_book_right") (cloFrom (cellsFrom (m + 1) (defScope st_law_book_right).names []) (lamS (defScope st_law_book_right) lam_law_book_right_0).names []) c
theorem mko_law_book_right_0 (m : Nat) : ∀ c', (mkn_law_book_right_0 m c').qual = qlam "_law_book_right" ∧ (mkn_law_book_right_0 m c').c = c' := fun _ => ⟨rfl, rfl⟩
/- 0: lambda _law_hand: Book(_law_hand) -/
abbrev lam_law_book_right_1 : Expr := (kidE (kidS ((defBody st_law_book_right).getD 4 (.Pass ⟨0, 0, 0, 0⟩))) 0)
abbrev nml_law_book_right_1 : List Str := ["_law_one", "_law_book"]
theorem scl_law_book_right_1 : NdefX.NScope nml_law_book_right_1 ["_law_one"] ["_law_book"] (lamS (defScope st_law_book_right) lam_law_book_right_1) := ⟨by decide +kernel, by decide +kernel, by decide +kernel, by decide +kernel, by decide +kernel, by decide +kernel, by decide +kernel, by decide +kernel, by decide +kernel⟩
theorem lfr_law_book_right_1 : ∀ y ∈ (lamS (defScope st_law_book_right) lam_law_book_right_1).names, y.2 = NameKind.free → (defScope st_law_book_right).names.lookup y.1 = some .cell ∨ (defScope st_law_book_right).names.lookup y.1 = some .free := by decide +kernel
def mkl_law_book_right_1 (q : Str) (cl : List (Str × Addr)) (c : Addr) : LF := ⟨q, lamP lam_law_book_right_1, lamB lam_law_book_right_1, lamS (defScope st_law_book_right) lam_law_book_right_1, cl, c⟩
def mkn_law_book_right_1 (m : Nat) (c : Addr) : LF := mkl_law_book_right_1 (qlam "_law_book_right") (cloFrom (cellsFrom (m + 1) (defScope st_law_book_right).names []) (lamS (defScope st_law_book_right) lam_law_book_right_1).names []) c
theorem mko_law_book_right_1 (m : Nat) : ∀ c', (mkn_law_book_right_1 m c').qual = qlam "_law_book_right" ∧ (mkn_law_book_right_1 m c').c = c' := fun _ => ⟨rfl, rfl⟩
/- 1: lambda _law_one: _law_book.answer(_law_one, None, None) -/
abbrev lam_law_book_right_2 : Expr := (kidE (kidS ((defBody st_law_book_right).getD 4 (.Pass ⟨0, 0, 0, 0⟩))) 1)
abbrev nml_law_book_right_2 : List Str := ["_law_two", "_law_book"]
theorem scl_law_book_right_2 : NdefX.NScope nml_law_book_right_2 ["_law_two"] ["_law_book"] (lamS (defScope st_law_book_right) lam_law_book_right_2) := ⟨by decide +kernel, by decide +kernel, by decide +kernel, by decide +kernel, by decide +kernel, by decide +kernel, by decide +kernel, by decide +kernel, by decide +kernel⟩
theorem lfr_law_book_right_2 : ∀ y ∈ (lamS (defScope st_law_book_right) lam_law_book_right_2).names, y.2 = NameKind.free → (defScope st_law_book_right).names.lookup y.1 = some .cell ∨ (defScope st_law_book_right).names.lookup y.1 = some .free := by decide +kernel
def mkl_law_book_right_2 (q : Str) (cl : List (Str × Addr)) (c : Addr) : LF := ⟨q, lamP lam_law_book_right_2, lamB lam_law_book_right_2, lamS (defScope st_law_book_right) lam_law_book_right_2, cl, c⟩
def mkn_law_book_right_2 (m : Nat) (c : Addr) : LF := mkl_law_book_right_2 (qlam "_law_book_right") (cloFrom (cellsFrom (m + 1) (defScope st_law_book_right).names []) (lamS (defScope st_law_book_right) lam_law_book_right_2).names []) c
theorem mko_law_book_right_2 (m : Nat) : ∀ c', (mkn_law_book_right_2 m c').qual = qlam "_law_book_right" ∧ (mkn_law_book_right_2 m c').c = c' := fun _ => ⟨rfl, rfl⟩
/- 2: lambda _law_two: _law_book.says(_law_two, None) -/
abbrev lam_law_book_right_3 : Expr := (kidE (kidS ((defBody st_law_book_right).getD 6 (.Pass ⟨0, 0, 0, 0⟩))) 0)
abbrev nml_law_book_right_3 : List Str := ["_law_one", "_law_book"]
theorem scl_law_book_right_3 : NdefX.NScope nml_law_book_right_3 ["_law_one"] ["_law_book"] (lamS (defScope st_law_book_right) lam_law_book_right_3) := ⟨by decide +kernel, by decide +kernel, by decide +kernel, by decide +kernel, by decide +kernel, by decide +kernel, by decide +kernel, by decide +kernel, by decide +kernel⟩
theorem lfr_law_book_right_3 : ∀ y ∈ (lamS (defScope st_law_book_right) lam_law_book_right_3).names, y.2 = NameKind.free → (defScope st_law_book_right).names.lookup y.1 = some .cell ∨ (defScope st_law_book_right).names.lookup y.1 = some .free := by decide +kernel
def mkl_law_book_right_3 (q : Str) (cl : List (Str × Addr)) (c : Addr) : LF := ⟨q, lamP lam_law_book_right_3, lamB lam_law_book_right_3, lamS (defScope st_law_book_right) lam_law_book_right_3, cl, c⟩
def mkn_law_book_right_3 (m : Nat) (c : Addr) : LF := mkl_law_book_right_3 (qlam "_law_book_right") (cloFrom (cellsFrom (m + 1) (defScope st_law_book_right).names []) (lamS (defScope st_law_book_right) lam_law_book_right_3).names []) c
theorem mko_law_book_right_3 (m : Nat) : ∀ c', (mkn_law_book_right_3 m c').qual = qlam "_law_book_right" ∧ (mkn_law_book_right_3 m c').c = c' := fun _ => ⟨rfl, rfl⟩
/- 3: lambda _law_one: _law_book.answer(7, _law_one, None) -/
abbrev lam_law_book_right_4 : Expr := (kidE (kidS ((defBody st_law_book_right).getD 6 (.Pass ⟨0, 0, 0, 0⟩))) 1)
abbrev nml_law_book_right_4 : List Str := ["_law_two", "_law_book"]
theorem scl_law_book_right_4 : NdefX.NScope nml_law_book_right_4 ["_law_two"] ["_law_book"] (lamS (defScope st_law_book_right) lam_law_book_right_4) := ⟨by decide +kernel, by decide +kernel, by decide +kernel, by decide +kernel, by decide +kernel, by decide +kernel, by decide +kernel, by decide +kernel, by decide +kernel⟩
theorem lfr_law_book_right_4 : ∀ y ∈ (lamS (defScope st_law_book_right) lam_law_book_right_4).names, y.2 = NameKind.free → (defScope st_law_book_right).names.lookup y.1 = some .cell ∨ (defScope st_law_book_right).names.lookup y.1 = some .free := by decide +kernel
def mkl_law_book_right_4 (q : Str) (cl : List (Str × Addr)) (c : Addr) : LF := ⟨q, lamP lam_law_book_right_4, lamB lam_law_book_right_4, lamS (defScope st_law_book_right) lam_law_book_right_4, cl, c⟩
def mkn_law_book_right_4 (m : Nat) (c : Addr) : LF := mkl_law_book_right_4 (qlam "_law_book_right") (cloFrom (cellsFrom (m + 1) (defScope st_law_book_right).names []) (lamS (defScope st_law_book_right) lam_law_book_right_4).names []) c
theorem mko_law_book_right_4 (m : Nat) : ∀ c', (mkn_law_book_right_4 m c').qual = qlam "_law_book_right" ∧ (mkn_law_book_right_4 m c').c = c' := fun _ => ⟨rfl, rfl⟩
/- 4: lambda _law_two: _law_book.says(0, _law_two) -/
abbrev lam_law_book_right_5 : Expr := (kidE (kidE (kidE (kidE (kidS ((defBody st_law_book_right).getD 9 (.Pass ⟨0, 0, 0, 0⟩))) 0) 0) 0) 0)
abbrev nml_law_book_right_5 : List Str := ["_law_word", "_law_book"]
theorem scl_law_book_right_5 : NdefX.NScope nml_law_book_right_5 ["_law_word"] ["_law_book"] (lamS (defScope st_law_book_right) lam_law_book_right_5) := ⟨by decide +kernel, by decide +kernel, by decide +kernel, by decide +kernel, by decide +kernel, by decide +kernel, by decide +kernel, by decide +kernel, by decide +kernel⟩
theorem lfr_law_book_right_5 : ∀ y ∈ (lamS (defScope st_law_book_right) lam_law_book_right_5).names, y.2 = NameKind.free → (defScope st_law_book_right).names.lookup y.1 = some .cell ∨ (defScope st_law_book_right).names.lookup y.1 = some .free := by decide +kernel
def mkl_law_book_right_5 (q : Str) (cl : List (Str × Addr)) (c : Addr) : LF := ⟨q, lamP lam_law_book_right_5, lamB lam_law_book_right_5, lamS (defScope st_law_book_right) lam_law_book_right_5, cl, c⟩
def mkn_law_book_right_5 (m : Nat) (c : Addr) : LF := mkl_law_book_right_5 (qlam "_law_book_right") (cloFrom (cellsFrom (m + 1) (defScope st_law_book_right).names []) (lamS (defScope st_law_book_right) lam_law_book_right_5).names []) c
theorem mko_law_book_right_5 (m : Nat) : ∀ c', (mkn_law_book_right_5 m c').qual = qlam "_law_book_right" ∧ (mkn_law_book_right_5 m c').c = c' := fun _ => ⟨rfl, rfl⟩
/- 5: lambda _law_word: _law_book.answer(0, 0, _law_word) -/
abbrev lam_law_book_right_6 : Expr := (kidE (kidE (kidE (kidE (kidS ((defBody st_law_book_right).getD 11 (.Pass ⟨0, 0, 0, 0⟩))) 0) 0) 0) 0)
abbrev nml_law_book_right_6 : List Str := ["_law_word", "_law_book"]
theorem scl_law_book_right_6 : NdefX.NScope nml_law_book_right_6 ["_law_word"] ["_law_book"] (lamS (defScope st_law_book_right) lam_law_book_right_6) := ⟨by decide +kernel, by decide +kernel, by decide +kernel, by decide +kernel, by decide +kernel, by decide +kernel, by decide +kernel, by decide +kernel, by decide +kernel⟩
theorem lfr_law_book_right_6 : ∀ y ∈ (lamS (defScope st_law_book_right) lam_law_book_right_6).names, y.2 = NameKind.free → (defScope st_law_book_right).names.lookup y.1 = some .cell ∨ (defScope st_law_book_right).names.lookup y.1 = some .free := by decide +kernel
def mkl_law_book_right_6 (q : Str) (cl : List (Str × Addr)) (c : Addr) : LF := ⟨q, lamP lam_law_book_right_6, lamB lam_law_book_right_6, lamS (defScope st_law_book_right) lam_law_book_right_6, cl, c⟩
def mkn_law_book_right_6 (m : Nat) (c : Addr) : LF := mkl_law_book_right_6 (qlam "_law_book_right") (cloFrom (cellsFrom (m + 1) (defScope st_law_book_right).names []) (lamS (defScope st_law_book_right) lam_law_book_right_6).names []) c
theorem mko_law_book_right_6 (m : Nat) : ∀ c', (mkn_law_book_right_6 m c').qual = qlam "_law_book_right" ∧ (mkn_law_book_right_6 m c').c = c' := fun _ => ⟨rfl, rfl⟩
/- 6: lambda _law_word: _law_book.answer(0, 0, _law_word) -/
abbrev lam_law_book_right_7 : Expr := (kidE (kidE (kidE (kidS ((defBody st_law_book_right).getD 12 (.Pass ⟨0, 0, 0, 0⟩))) 0) 0) 0)
abbrev nml_law_book_right_7 : List Str := ["_law_word", "_law_book"]
theorem scl_law_book_right_7 : NdefX.NScope nml_law_book_right_7 ["_law_word"] ["_law_book"] (lamS (defScope st_law_book_right) lam_law_book_right_7) := ⟨by decide +kernel, by decide +kernel, by decide +kernel, by decide +kernel, by decide +kernel, by decide +kernel, by decide +kernel, by decide +kernel, by decide +kernel⟩
theorem lfr_law_book_right_7 : ∀ y ∈ (lamS (defScope st_law_book_right) lam_law_book_right_7).names, y.2 = NameKind.free → (defScope st_law_book_right).names.lookup y.1 = some .cell ∨ (defScope st_law_book_right).names.lookup y.1 = some .free := by decide +kernel
def mkl_law_book_right_7 (q : Str) (cl : List (Str × Addr)) (c : Addr) : LF := ⟨q, lamP lam_law_book_right_7, lamB lam_law_book_right_7, lamS (defScope st_law_book_right) lam_law_book_right_7, cl, c⟩
def mkn_law_book_right_7 (m : Nat) (c : Addr) : LF := mkl_law_book_right_7 (qlam "_law_book_right") (cloFrom (cellsFrom (m + 1) (defScope st_law_book_right).names []) (lamS (defScope st_law_book_right) lam_law_book_right_7).names []) c
theorem mko_law_book_right_7 (m : Nat) : ∀ c', (mkn_law_book_right_7 m c').qual = qlam "_law_book_right" ∧ (mkn_law_book_right_7 m c').c = c' := fun _ => ⟨rfl, rfl⟩
/- 7: lambda _law_word: _law_book.answer(0, 0, _law_word) -/
abbrev lam_law_book_right_8 : Expr := (kidE (kidE (kidE (kidE (kidS ((defBody st_law_book_right).getD 14 (.Pass ⟨0, 0, 0, 0⟩))) 1) 0) 0) 0)
abbrev nml_law_book_right_8 : List Str := ["_law_word", "_law_far"]
theorem scl_law_book_right_8 : NdefX.NScope nml_law_book_right_8 ["_law_word"] ["_law_far"] (lamS (defScope st_law_book_right) lam_law_book_right_8) := ⟨by decide +kernel, by decide +kernel, by decide +kernel, by decide +kernel, by decide +kernel, by decide +kernel, by decide +kernel, by decide +kernel, by decide +kernel⟩
theorem lfr_law_book_right_8 : ∀ y ∈ (lamS (defScope st_law_book_right) lam_law_book_right_8).names, y.2 = NameKind.free → (defScope st_law_book_right).names.lookup y.1 = some .cell ∨ (defScope st_law_book_right).names.lookup y.1 = some .free := by decide +kernel
def mkl_law_book_right_8 (q : Str) (cl : List (Str × Addr)) (c : Addr) : LF := ⟨q, lamP lam_law_book_right_8, lamB lam_law_book_right_8, lamS (defScope st_law_book_right) lam_law_book_right_8, cl, c⟩
def mkn_law_book_right_8 (m : Nat) (c : Addr) : LF := mkl_law_book_right_8 (qlam "_law_book_right") (cloFrom (cellsFrom (m + 1) (defScope st_law_book_right).names []) (lamS (defScope st_law_book_right) lam_law_book_right_8).names []) c
theorem mko_law_book_right_8 (m : Nat) : ∀ c', (mkn_law_book_right_8 m c').qual = qlam "_law_book_right" ∧ (mkn_law_book_right_8 m c').c = c' := fun _ => ⟨rfl, rfl⟩
/- 8: lambda _law_word: _law_far.answer(0, 0, _law_word) -/
end
def sp_lamW (cB cU cm : Addr) : Sp := fun vs H _ E => ∃ v : V, vs = [v] ∧ ∃ (d : Th) (C : Addr), At H d v ∧ WBad cB cU d C ∧ TabG H cm ∧ ∀ H', Kx H H' → E (.ref C) none H'
def sp_lamM (f : Th → Bool) (cM cm : Addr) : Sp := fun vs H _ E => ∃ v : V, vs = [v] ∧ ∃ d : Th, At H d v ∧ f d = false ∧ TabG H cm ∧ ∀ H', Kx H H' → E (.ref cM) none H'
def sp_lamD (f : Th → Bool) (cM : Addr) : Sp := fun vs H _ E => ∃ v : V, vs = [v] ∧ ∃ d : Th, At H d v ∧ f d = false ∧ ∀ H', Kx H H' → E (.ref cM) none H'
def sp_lamO (cO cm : Addr) (g : V) : Sp := fun vs H _ E => ∃ v : V, vs = [v] ∧ ∃ d e : Th, At H d v ∧ At H e g ∧ meetB e = true ∧ oldsB 2 d = false ∧ TabG H cm ∧ ∀ H', Kx H H' → E (.ref cO) none H'
def sp_lamH (cBo cB cU x : Addr) : Sp := fun vs H _ E => ∃ v : V, vs = [v] ∧ ∃ (dx kn : Addr) (g : Int) (ts : List Addr) (ws : List Wd) (d : Th) (C : Addr), BookAt H cBo x dx kn g ts ws ∧ Good ws ∧ Alike ws ∧ At H d v ∧ WBad cB cU d C ∧ ∀ H', Kx H H' → E (.ref C) none H'
def sp_lamB (f : Th → Bool) (cBo C x : Addr) : Sp := fun vs H _ E => ∃ v : V, vs = [v] ∧ ∃ (dx kn : Addr) (g : Int) (ts : List Addr) (ws : List Wd) (d : Th), BookAt H cBo x dx kn g ts ws ∧ At H d v ∧ f d = false ∧ ∀ H', Kx H H' → E (.ref C) none H'
def sp_lamF (cBo cT x : Addr) : Sp := fun vs H _ E => ∃ v : V, vs = [v] ∧ ∃ (dx kn : Addr) (g : Int) (ts : List Addr) (ws : List Wd) (a : Str), v = .str a ∧ BookAt H cBo x dx kn g ts ws ∧ a ∈ ansL ∧ ws.length ≤ 80 ∧ (¬ (nextC ws ≤ 99 ∧ ws.length < 80)) ∧ ∀ H', Kx H H' → E (.ref cT) none H'
theorem meets_one {ds : List Th} {t : Th} (m : t ∈ ds) (h : meetB t = false) : meetsB (.lst ds) = false := by
  show (_ && ds.all meetB) = false
  rw [show ds.all meetB = false from List.all_eq_false.mpr ⟨t, m, by rw [h]; exact Bool.false_ne_true⟩, Bool.and_false]
section
variable {P : Program} {w : World} {K : PySem.W.Frag} {mg : Str → Option Value} {base : Heap} {c aA cB cU cM cO cm cBo cHa cPe cHo cWd cT : Addr}
theorem act_law_tables_right_0 {q : Str} {cl : List (Str × Addr)} {c' : Addr} (cells : ∀ (A : Around) (outer : List Env) (s : Shared) (H : Hp), Env0 P w K mg base A outer s H → NdefX.CellsAt cl [] [] s.heap H) (f_joined : CalX P w K mg base 7 "joined" (sp_jbad K cB cU)) : ActOk P w K mg base 10 (mkl_law_tables_right_0 q cl c') (sp_lamW cB cU cm) := by
  refine act_of (k := 9) (ws := []) scl_law_tables_right_0 (fun pm ctv us hl => match us, hl with | [_], _ => rfl) (fun vs H Q E h => ?_) cells (fun f A outer s H vs Q E hr h => ?_)
  · obtain ⟨v, rfl, _⟩ := h
    rfl
  obtain ⟨v, rfl, d, C, hv, hb, tm, q⟩ := h
  refine ⟨_, (pe_cX f_joined hr (by decide) (by rfl) (L2N.takes_of rfl rfl rfl rfl) (pa_cons (pv 0) (pa_cons (pe_lst pa_nil) pa_nil))), ?_⟩
  refine ⟨_, rfl, Nat.zero_le _, fun p np => ?_⟩
  have k := Kx.new (u := .lst []) np
  exact ⟨d, v, .ref p, C, .inl rfl, hv.k k, hb, fun H' k' => q H' (k.trans k')⟩
theorem act_law_tables_right_1 {q : Str} {cl : List (Str × Addr)} {c' : Addr} (cells : ∀ (A : Around) (outer : List Env) (s : Shared) (H : Hp), Env0 P w K mg base A outer s H → NdefX.CellsAt cl [] [] s.heap H) (f_joined : CalX P w K mg base 7 "joined" (sp_jbad K cB cU)) : ActOk P w K mg base 10 (mkl_law_tables_right_1 q cl c') (sp_lamW cB cU cm) := by
  refine act_of (k := 9) (ws := []) scl_law_tables_right_1 (fun pm ctv us hl => match us, hl with | [_], _ => rfl) (fun vs H Q E h => ?_) cells (fun f A outer s H vs Q E hr h => ?_)
  · obtain ⟨v, rfl, _⟩ := h
    rfl
  obtain ⟨v, rfl, d, C, hv, hb, tm, q⟩ := h
  refine ⟨_, (pe_cX f_joined hr (by decide) (by rfl) (L2N.takes_of rfl rfl rfl rfl) (pa_cons (pe_lst pa_nil) (pa_cons (pv 0) pa_nil))), ?_⟩
  refine ⟨Nat.zero_le _, fun p np => ⟨_, rfl, ?_⟩⟩
  have k := Kx.new (u := .lst []) np
  exact ⟨d, v, .non, C, .inr ⟨p, [], rfl, ⟨[], sq_of upd_same, .nil⟩, by decide, (fun x hx => absurd hx List.not_mem_nil), (fun x hx => absurd hx List.not_mem_nil)⟩, hv.k k, hb, fun H' k' => q H' (k.trans k')⟩
theorem act_law_tables_right_2 {q : Str} {cl : List (Str × Addr)} {c' : Addr} (cells : ∀ (A : Around) (outer : List Env) (s : Shared) (H : Hp), Env0 P w K mg base A outer s H → NdefX.CellsAt cl [] [] s.heap H) (f_hours : CalX P w K mg base 8 "hours" (sp_door2 cB cU cM cm)) : ActOk P w K mg base 10 (mkl_law_tables_right_2 q cl c') (sp_lamW cB cU cm) := by
  refine act_of (k := 9) (ws := []) scl_law_tables_right_2 (fun pm ctv us hl => match us, hl with | [_], _ => rfl) (fun vs H Q E h => ?_) cells (fun f A outer s H vs Q E hr h => ?_)
  · obtain ⟨v, rfl, _⟩ := h
    rfl
  obtain ⟨v, rfl, d, C, hv, hb, tm, q⟩ := h
  refine ⟨_, (pe_cX f_hours hr (by decide) (by rfl) (L2N.takes_of rfl rfl rfl rfl) (pa_cons (pv 0) (pa_cons pe_non pa_nil))), ?_⟩
  exact ⟨_, rfl, d, .non, v, .non, C, rfl, hv, rfl, .w hb, tm, q⟩
theorem act_law_tables_right_3 {q : Str} {cl : List (Str × Addr)} {c' : Addr} (cells : ∀ (A : Around) (outer : List Env) (s : Shared) (H : Hp), Env0 P w K mg base A outer s H → NdefX.CellsAt cl [] [] s.heap H) (f_hours_maybe : CalX P w K mg base 8 "hours_maybe" (sp_door2 cB cU cM cm)) : ActOk P w K mg base 10 (mkl_law_tables_right_3 q cl c') (sp_lamW cB cU cm) := by
  refine act_of (k := 9) (ws := []) scl_law_tables_right_3 (fun pm ctv us hl => match us, hl with | [_], _ => rfl) (fun vs H Q E h => ?_) cells (fun f A outer s H vs Q E hr h => ?_)
  · obtain ⟨v, rfl, _⟩ := h
    rfl
  obtain ⟨v, rfl, d, C, hv, hb, tm, q⟩ := h
  refine ⟨_, (pe_cX f_hours_maybe hr (by decide) (by rfl) (L2N.takes_of rfl rfl rfl rfl) (pa_cons (pv 0) (pa_cons pe_non pa_nil))), ?_⟩
  exact ⟨_, rfl, d, .non, v, .non, C, rfl, hv, rfl, .w hb, tm, q⟩
theorem act_law_tables_right_4 {q : Str} {cl : List (Str × Addr)} {c' : Addr} (cells : ∀ (A : Around) (outer : List Env) (s : Shared) (H : Hp), Env0 P w K mg base A outer s H → NdefX.CellsAt cl [] [] s.heap H) (f_first : CalX P w K mg base 7 "first" (sp_door2 cB cU cM cm)) : ActOk P w K mg base 10 (mkl_law_tables_right_4 q cl c') (sp_lamW cB cU cm) := by
  refine act_of (k := 9) (ws := []) scl_law_tables_right_4 (fun pm ctv us hl => match us, hl with | [_], _ => rfl) (fun vs H Q E h => ?_) cells (fun f A outer s H vs Q E hr h => ?_)
  · obtain ⟨v, rfl, _⟩ := h
    rfl
  obtain ⟨v, rfl, d, C, hv, hb, tm, q⟩ := h
  refine ⟨_, (pe_cX f_first hr (by decide) (by rfl) (L2N.takes_of rfl rfl rfl rfl) (pa_cons (pv 0) (pa_cons pe_non pa_nil))), ?_⟩
  exact ⟨_, rfl, d, .non, v, .non, C, rfl, hv, rfl, .w hb, tm, q⟩
theorem act_law_tables_right_5 {q : Str} {cl : List (Str × Addr)} {c' : Addr} (cells : ∀ (A : Around) (outer : List Env) (s : Shared) (H : Hp), Env0 P w K mg base A outer s H → NdefX.CellsAt cl [] [] s.heap H) (f_table : CalX P w K mg base 7 "table" (sp_door3 cB cU cM cO cm)) : ActOk P w K mg base 10 (mkl_law_tables_right_5 q cl c') (sp_lamW cB cU cm) := by
  refine act_of (k := 9) (ws := []) scl_law_tables_right_5 (fun pm ctv us hl => match us, hl with | [_], _ => rfl) (fun vs H Q E h => ?_) cells (fun f A outer s H vs Q E hr h => ?_)
  · obtain ⟨v, rfl, _⟩ := h
    rfl
  obtain ⟨v, rfl, d, C, hv, hb, tm, q⟩ := h
  refine ⟨_, (pe_cX f_table hr (by decide) (by rfl) (L2N.takes_of rfl rfl rfl rfl) (pa_cons (pv 0) (pa_cons pe_non (pa_cons pe_non pa_nil)))), ?_⟩
  exact ⟨_, rfl, d, .non, .non, v, .non, .non, C, rfl, hv, rfl, rfl, .w (.w hb), tm, q⟩
theorem act_law_tables_right_6 {x : Addr} {q : Str} {cl : List (Str × Addr)} {c' : Addr} (cells : ∀ (A : Around) (outer : List Env) (s : Shared) (H : Hp), Env0 P w K mg base A outer s H → NdefX.CellsAt cl (nml_law_tables_right_6.drop 1) [some (.ref x)] s.heap H) (m_Book_hear : MetX P w K mg base 8 cBo "hear" (sp_hearT K cBo cB cU)) : ActOk P w K mg base 10 (mkl_law_tables_right_6 q cl c') (sp_lamH cBo cB cU x) := by
  refine act_of (k := 9) (ws := [some (.ref x)]) scl_law_tables_right_6 (fun pm ctv us hl => match us, hl with | [_], _ => rfl) (fun vs H Q E h => ?_) cells (fun f A outer s H vs Q E hr h => ?_)
  · obtain ⟨v, rfl, _⟩ := h
    rfl
  obtain ⟨v, rfl, dx, kn, g, ts, ws, d, C, B, gw, al, hv, hb, q⟩ := h
  refine ⟨_, (pe_mtX m_Book_hear hr (by decide) (L2N.takes_of rfl rfl rfl rfl) (pv 1) (pa_cons (pv 0) pa_nil)), ?_⟩
  exact ⟨_, rfl, x, dx, _, rfl, B.ob, rfl, _, rfl, x, dx, kn, g, ts, ws, d, v, C, rfl, B, gw, al, hv, hb, q⟩
theorem act_law_tables_right_7 {x : Addr} {q : Str} {cl : List (Str × Addr)} {c' : Addr} (cells : ∀ (A : Around) (outer : List Env) (s : Shared) (H : Hp), Env0 P w K mg base A outer s H → NdefX.CellsAt cl (nml_law_tables_right_7.drop 1) [some (.ref x)] s.heap H) (m_Book_hear : MetX P w K mg base 8 cBo "hear" (sp_hearT K cBo cB cU)) : ActOk P w K mg base 10 (mkl_law_tables_right_7 q cl c') (sp_lamH cBo cB cU x) := by
  refine act_of (k := 9) (ws := [some (.ref x)]) scl_law_tables_right_7 (fun pm ctv us hl => match us, hl with | [_], _ => rfl) (fun vs H Q E h => ?_) cells (fun f A outer s H vs Q E hr h => ?_)
  · obtain ⟨v, rfl, _⟩ := h
    rfl
  obtain ⟨v, rfl, dx, kn, g, ts, ws, d, C, B, gw, al, hv, hb, q⟩ := h
  refine ⟨_, (pe_mtX m_Book_hear hr (by decide) (L2N.takes_of rfl rfl rfl rfl) (pv 1) (pa_cons (pv 0) pa_nil)), ?_⟩
  exact ⟨_, rfl, x, dx, _, rfl, B.ob, rfl, _, rfl, x, dx, kn, g, ts, ws, d, v, C, rfl, B, gw, al, hv, hb, q⟩
theorem act_law_tables_right_8 {q : Str} {cl : List (Str × Addr)} {c' : Addr} (cells : ∀ (A : Around) (outer : List Env) (s : Shared) (H : Hp), Env0 P w K mg base A outer s H → NdefX.CellsAt cl [] [] s.heap H) (f_hours : CalX P w K mg base 8 "hours" (sp_door2 cB cU cM cm)) : ActOk P w K mg base 10 (mkl_law_tables_right_8 q cl c') (sp_lamM meetB cM cm) := by
  refine act_of (k := 9) (ws := []) scl_law_tables_right_8 (fun pm ctv us hl => match us, hl with | [_], _ => rfl) (fun vs H Q E h => ?_) cells (fun f A outer s H vs Q E hr h => ?_)
  · obtain ⟨v, rfl, _⟩ := h
    rfl
  obtain ⟨v, rfl, d, hv, hb, tm, q⟩ := h
  refine ⟨_, (pe_cX f_hours hr (by decide) (by rfl) (L2N.takes_of rfl rfl rfl rfl) (pa_cons (pe_lst pa_nil) (pa_cons (pv 0) pa_nil))), ?_⟩
  refine ⟨Nat.zero_le _, fun p np => ⟨_, rfl, ?_⟩⟩
  have k := Kx.new (u := .lst []) np
  exact ⟨.lst [], d, .ref p, v, cM, rfl, ⟨p, [], rfl, upd_same, rfl⟩, hv.k k, .m hb, k.g _ tm, fun H' k' => q H' (k.trans k')⟩
theorem act_law_tables_right_9 {q : Str} {cl : List (Str × Addr)} {c' : Addr} (cells : ∀ (A : Around) (outer : List Env) (s : Shared) (H : Hp), Env0 P w K mg base A outer s H → NdefX.CellsAt cl [] [] s.heap H) (f_hours_maybe : CalX P w K mg base 8 "hours_maybe" (sp_door2 cB cU cM cm)) : ActOk P w K mg base 10 (mkl_law_tables_right_9 q cl c') (sp_lamM meetB cM cm) := by
  refine act_of (k := 9) (ws := []) scl_law_tables_right_9 (fun pm ctv us hl => match us, hl with | [_], _ => rfl) (fun vs H Q E h => ?_) cells (fun f A outer s H vs Q E hr h => ?_)
  · obtain ⟨v, rfl, _⟩ := h
    rfl
  obtain ⟨v, rfl, d, hv, hb, tm, q⟩ := h
  refine ⟨_, (pe_cX f_hours_maybe hr (by decide) (by rfl) (L2N.takes_of rfl rfl rfl rfl) (pa_cons (pe_lst pa_nil) (pa_cons (pv 0) pa_nil))), ?_⟩
  refine ⟨Nat.zero_le _, fun p np => ⟨_, rfl, ?_⟩⟩
  have k := Kx.new (u := .lst []) np
  exact ⟨.lst [], d, .ref p, v, cM, rfl, ⟨p, [], rfl, upd_same, rfl⟩, hv.k k, .m hb, k.g _ tm, fun H' k' => q H' (k.trans k')⟩
theorem act_law_tables_right_10 {q : Str} {cl : List (Str × Addr)} {c' : Addr} (cells : ∀ (A : Around) (outer : List Env) (s : Shared) (H : Hp), Env0 P w K mg base A outer s H → NdefX.CellsAt cl [] [] s.heap H) (f_first : CalX P w K mg base 7 "first" (sp_door2 cB cU cM cm)) : ActOk P w K mg base 10 (mkl_law_tables_right_10 q cl c') (sp_lamM meetB cM cm) := by
  refine act_of (k := 9) (ws := []) scl_law_tables_right_10 (fun pm ctv us hl => match us, hl with | [_], _ => rfl) (fun vs H Q E h => ?_) cells (fun f A outer s H vs Q E hr h => ?_)
  · obtain ⟨v, rfl, _⟩ := h
    rfl
  obtain ⟨v, rfl, d, hv, hb, tm, q⟩ := h
  refine ⟨_, (pe_cX f_first hr (by decide) (by rfl) (L2N.takes_of rfl rfl rfl rfl) (pa_cons (pe_lst pa_nil) (pa_cons (pv 0) pa_nil))), ?_⟩
  refine ⟨Nat.zero_le _, fun p np => ⟨_, rfl, ?_⟩⟩
  have k := Kx.new (u := .lst []) np
  exact ⟨.lst [], d, .ref p, v, cM, rfl, ⟨p, [], rfl, upd_same, rfl⟩, hv.k k, .m hb, k.g _ tm, fun H' k' => q H' (k.trans k')⟩
theorem act_law_tables_right_11 {q : Str} {cl : List (Str × Addr)} {c' : Addr} (cells : ∀ (A : Around) (outer : List Env) (s : Shared) (H : Hp), Env0 P w K mg base A outer s H → NdefX.CellsAt cl [] [] s.heap H) (f_table : CalX P w K mg base 7 "table" (sp_door3 cB cU cM cO cm)) : ActOk P w K mg base 10 (mkl_law_tables_right_11 q cl c') (sp_lamM meetB cM cm) := by
  refine act_of (k := 9) (ws := []) scl_law_tables_right_11 (fun pm ctv us hl => match us, hl with | [_], _ => rfl) (fun vs H Q E h => ?_) cells (fun f A outer s H vs Q E hr h => ?_)
  · obtain ⟨v, rfl, _⟩ := h
    rfl
  obtain ⟨v, rfl, d, hv, hb, tm, q⟩ := h
  refine ⟨_, (pe_cX f_table hr (by decide) (by rfl) (L2N.takes_of rfl rfl rfl rfl) (pa_cons (pe_lst pa_nil) (pa_cons (pe_lst (pa_cons (pv 0) pa_nil)) (pa_cons pe_non pa_nil)))), ?_⟩
  refine ⟨Nat.zero_le _, fun p np => ⟨_, rfl, (by show 1 ≤ sizeLine; decide), fun p2 np2 => ?_⟩⟩
  have k := Kx.new (u := .lst []) np
  have k2 := Kx.new (u := .lst [v]) np2
  have hp : At (upd H p (.lst [])) (.lst []) (.ref p) := ⟨p, [], rfl, upd_same, rfl⟩
  exact ⟨.lst [], .lst [d], .non, .ref p, .ref p2, .non, cM, rfl, hp.k k2, ⟨p2, [v], rfl, upd_same, v, [], rfl, (hv.k k).k k2, rfl⟩, rfl, .w (.m (meets_one List.mem_cons_self hb)), k2.g _ (k.g _ tm), fun H' k' => q H' ((k.trans k2).trans k')⟩
theorem act_law_tables_right_12 {q : Str} {cl : List (Str × Addr)} {c' : Addr} (cells : ∀ (A : Around) (outer : List Env) (s : Shared) (H : Hp), Env0 P w K mg base A outer s H → NdefX.CellsAt cl [] [] s.heap H) (f_table : CalX P w K mg base 7 "table" (sp_door3 cB cU cM cO cm)) : ActOk P w K mg base 10 (mkl_law_tables_right_12 q cl c') (sp_lamM meetB cM cm) := by
  refine act_of (k := 9) (ws := []) scl_law_tables_right_12 (fun pm ctv us hl => match us, hl with | [_], _ => rfl) (fun vs H Q E h => ?_) cells (fun f A outer s H vs Q E hr h => ?_)
  · obtain ⟨v, rfl, _⟩ := h
    rfl
  obtain ⟨v, rfl, d, hv, hb, tm, q⟩ := h
  refine ⟨_, (pe_cX f_table hr (by decide) (by rfl) (L2N.takes_of rfl rfl rfl rfl) (pa_cons (pe_lst pa_nil) (pa_cons (pe_op op_cat (pe_op op_rep (pe_lst (pa_cons (pe_tup (pa_cons (pe_tup (pa_cons pe_int pa_nil)) (pa_cons pe_int (pa_cons (pe_tup pa_nil) pa_nil)))) pa_nil)) pe_int) (pe_lst (pa_cons (pv 0) pa_nil))) (pa_cons pe_non pa_nil)))), ?_⟩
  refine ⟨Nat.zero_le _, fun p np => ?_⟩
  have k := Kx.new (u := .lst []) np
  have hp : At (upd H p (.lst [])) (.lst []) (.ref p) := ⟨p, [], rfl, upd_same, rfl⟩
  generalize upd H p (.lst []) = H1 at k hp ⊢
  refine cons_ma (S := []) (Γ := [(v, d)]) (d := .lst ((List.replicate 5 [Th.tup [.tup [.int 0], .int 1, .tup []]]).flatten ++ [d])) ?_ (gam1 (hv.k k).w0) noS fun u H2 n2 hu => ?_
  · refine mk_cat ?_ ?_ ?_
    · repeat' (first | exact mks_nil | apply mks_cons | exact mk_non | exact mk_bl | exact mk_int | exact mk_str | exact mk_neg | exact mk_dct | exact mk_varI rfl | exact mk_var rfl List.mem_cons_self | exact mk_var rfl (List.mem_cons_of_mem _ List.mem_cons_self) | exact mk_var rfl (List.mem_cons_of_mem _ (List.mem_cons_of_mem _ List.mem_cons_self)) | apply mk_tup | apply mk_lst | apply mk_add | apply mk_sub | apply mk_rep | apply mk_list | apply mk_take | apply mk_catT | apply mk_cat | exact Nat.le_of_ble_eq_true rfl | exact List.cons_ne_nil _ _)
    · repeat' (first | exact mks_nil | apply mks_cons | exact mk_non | exact mk_bl | exact mk_int | exact mk_str | exact mk_neg | exact mk_dct | exact mk_varI rfl | exact mk_var rfl List.mem_cons_self | exact mk_var rfl (List.mem_cons_of_mem _ List.mem_cons_self) | exact mk_var rfl (List.mem_cons_of_mem _ (List.mem_cons_of_mem _ List.mem_cons_self)) | apply mk_tup | apply mk_lst | apply mk_add | apply mk_sub | apply mk_rep | apply mk_list | apply mk_take | apply mk_catT | apply mk_cat | exact Nat.le_of_ble_eq_true rfl | exact List.cons_ne_nil _ _)
    · exact Nat.le_of_ble_eq_true rfl
  rw [wo_nil] at hu
  exact ⟨.lst [], _, .non, .ref p, u, .non, cM, rfl, hp.k n2.kx, hu, rfl, .w (.m (meets_one (List.mem_append_right _ List.mem_cons_self) hb)), n2.kx.g _ (k.g _ tm), fun H' k' => q H' ((k.trans n2.kx).trans k')⟩
theorem act_law_tables_right_13 {q : Str} {cl : List (Str × Addr)} {c' : Addr} (cells : ∀ (A : Around) (outer : List Env) (s : Shared) (H : Hp), Env0 P w K mg base A outer s H → NdefX.CellsAt cl [] [] s.heap H) (f_table : CalX P w K mg base 7 "table" (sp_door3 cB cU cM cO cm)) : ActOk P w K mg base 10 (mkl_law_tables_right_13 q cl c') (sp_lamM meetsB cM cm) := by
  refine act_of (k := 9) (ws := []) scl_law_tables_right_13 (fun pm ctv us hl => match us, hl with | [_], _ => rfl) (fun vs H Q E h => ?_) cells (fun f A outer s H vs Q E hr h => ?_)
  · obtain ⟨v, rfl, _⟩ := h
    rfl
  obtain ⟨v, rfl, d, hv, hb, tm, q⟩ := h
  refine ⟨_, (pe_cX f_table hr (by decide) (by rfl) (L2N.takes_of rfl rfl rfl rfl) (pa_cons (pe_lst pa_nil) (pa_cons (pv 0) (pa_cons pe_non pa_nil)))), ?_⟩
  refine ⟨Nat.zero_le _, fun p np => ⟨_, rfl, ?_⟩⟩
  have k := Kx.new (u := .lst []) np
  exact ⟨.lst [], d, .non, .ref p, v, .non, cM, rfl, ⟨p, [], rfl, upd_same, rfl⟩, hv.k k, rfl, .w (.m hb), k.g _ tm, fun H' k' => q H' (k.trans k')⟩
theorem act_law_tables_right_14 {g : V} {q : Str} {cl : List (Str × Addr)} {c' : Addr} (cells : ∀ (A : Around) (outer : List Env) (s : Shared) (H : Hp), Env0 P w K mg base A outer s H → NdefX.CellsAt cl (nml_law_tables_right_14.drop 1) [some g] s.heap H) (f_table : CalX P w K mg base 7 "table" (sp_door3 cB cU cM cO cm)) : ActOk P w K mg base 10 (mkl_law_tables_right_14 q cl c') (sp_lamO cO cm g) := by
  refine act_of (k := 9) (ws := [some g]) scl_law_tables_right_14 (fun pm ctv us hl => match us, hl with | [_], _ => rfl) (fun vs H Q E h => ?_) cells (fun f A outer s H vs Q E hr h => ?_)
  · obtain ⟨v, rfl, _⟩ := h
    rfl
  obtain ⟨v, rfl, d, e, hv, hg, he, hb, tm, q⟩ := h
  refine ⟨_, (pe_cX f_table hr (by decide) (by rfl) (L2N.takes_of rfl rfl rfl rfl) (pa_cons (pe_lst pa_nil) (pa_cons (pe_lst (pa_cons (pv 1) (pa_cons (pv 1) pa_nil))) (pa_cons (pv 0) pa_nil)))), ?_⟩
  refine ⟨Nat.zero_le _, fun p np => ?_⟩
  have k := Kx.new (u := .lst []) np
  have hp : At (upd H p (.lst [])) (.lst []) (.ref p) := ⟨p, [], rfl, upd_same, rfl⟩
  generalize upd H p (.lst []) = H1 at k hp ⊢
  refine cons_ma (S := []) (Γ := [(g, e)]) (d := .lst [e, e]) ?_ (gam1 (hg.k k).w0) noS fun u H2 n2 hu => ?_
  · repeat' (first | exact mks_nil | apply mks_cons | exact mk_non | exact mk_bl | exact mk_int | exact mk_str | exact mk_neg | exact mk_dct | exact mk_varI rfl | exact mk_var rfl List.mem_cons_self | exact mk_var rfl (List.mem_cons_of_mem _ List.mem_cons_self) | exact mk_var rfl (List.mem_cons_of_mem _ (List.mem_cons_of_mem _ List.mem_cons_self)) | apply mk_tup | apply mk_lst | apply mk_add | apply mk_sub | apply mk_rep | apply mk_list | apply mk_take | apply mk_catT | apply mk_cat | exact Nat.le_of_ble_eq_true rfl | exact List.cons_ne_nil _ _)
  rw [wo_nil] at hu
  have e2 : meetsB (.lst [e, e]) = true := by
    show (decide ([e, e].length ≤ 6) && [e, e].all meetB) = true
    rw [List.all_cons, List.all_cons, he] <;> rfl
  exact ⟨_, rfl, .lst [], .lst [e, e], d, .ref p, u, v, cO, rfl, hp.k n2.kx, hu, hv.k (k.trans n2.kx), .o e2 hb, n2.kx.g _ (k.g _ tm), fun H' k' => q H' ((k.trans n2.kx).trans k')⟩
theorem act_law_book_right_0 {q : Str} {cl : List (Str × Addr)} {c' : Addr} (cells : ∀ (A : Around) (outer : List Env) (s : Shared) (H : Hp), Env0 P w K mg base A outer s H → NdefX.CellsAt cl [] [] s.heap H) (k_Book : MakX P w K mg base 5 "Book" cBo (sp_Book_bad cBo cHa)) : ActOk P w K mg base 10 (mkl_law_book_right_0 q cl c') (sp_lamD handB cHa) := by
  refine act_of (k := 9) (ws := []) scl_law_book_right_0 (fun pm ctv us hl => match us, hl with | [_], _ => rfl) (fun vs H Q E h => ?_) cells (fun f A outer s H vs Q E hr h => ?_)
  · obtain ⟨v, rfl, _⟩ := h
    rfl
  obtain ⟨v, rfl, d, hv, hb, q⟩ := h
  refine ⟨_, (pe_mkX k_Book hr (by decide) (by rfl) (L2N.takes_of rfl rfl rfl rfl) (pa_cons (pv 0) pa_nil)), ?_⟩
  exact ⟨_, rfl, fun x dx nx ndx nxx => ⟨H, x, dx, d, v, rfl, rfl, nx, ndx, hv, hb, q⟩⟩
theorem act_law_book_right_1 {x : Addr} {q : Str} {cl : List (Str × Addr)} {c' : Addr} (cells : ∀ (A : Around) (outer : List Env) (s : Shared) (H : Hp), Env0 P w K mg base A outer s H → NdefX.CellsAt cl (nml_law_book_right_1.drop 1) [some (.ref x)] s.heap H) (m_Book_answer : MetX P w K mg base 5 cBo "answer" (sp_answerT cPe cHo cWd)) : ActOk P w K mg base 10 (mkl_law_book_right_1 q cl c') (sp_lamB personB cBo cPe x) := by
  refine act_of (k := 9) (ws := [some (.ref x)]) scl_law_book_right_1 (fun pm ctv us hl => match us, hl with | [_], _ => rfl) (fun vs H Q E h => ?_) cells (fun f A outer s H vs Q E hr h => ?_)
  · obtain ⟨v, rfl, _⟩ := h
    rfl
  obtain ⟨v, rfl, dx, kn, g, ts, ws, d, B, hv, hb, q⟩ := h
  refine ⟨_, (pe_mtX m_Book_answer hr (by decide) (L2N.takes_of rfl rfl rfl rfl) (pv 1) (pa_cons (pv 0) (pa_cons pe_non (pa_cons pe_non pa_nil)))), ?_⟩
  exact ⟨_, rfl, x, dx, _, rfl, B.ob, rfl, _, rfl, x, d, .non, .non, v, .non, .non, cPe, rfl, hv, rfl, rfl, .p hb, q _ (Kx.refl H)⟩
theorem act_law_book_right_2 {x : Addr} {q : Str} {cl : List (Str × Addr)} {c' : Addr} (cells : ∀ (A : Around) (outer : List Env) (s : Shared) (H : Hp), Env0 P w K mg base A outer s H → NdefX.CellsAt cl (nml_law_book_right_2.drop 1) [some (.ref x)] s.heap H) (m_Book_says : MetX P w K mg base 5 cBo "says" (sp_saysT cPe cHo)) : ActOk P w K mg base 10 (mkl_law_book_right_2 q cl c') (sp_lamB personB cBo cPe x) := by
  refine act_of (k := 9) (ws := [some (.ref x)]) scl_law_book_right_2 (fun pm ctv us hl => match us, hl with | [_], _ => rfl) (fun vs H Q E h => ?_) cells (fun f A outer s H vs Q E hr h => ?_)
  · obtain ⟨v, rfl, _⟩ := h
    rfl
  obtain ⟨v, rfl, dx, kn, g, ts, ws, d, B, hv, hb, q⟩ := h
  refine ⟨_, (pe_mtX m_Book_says hr (by decide) (L2N.takes_of rfl rfl rfl rfl) (pv 1) (pa_cons (pv 0) (pa_cons pe_non pa_nil))), ?_⟩
  exact ⟨_, rfl, x, dx, _, rfl, B.ob, rfl, _, rfl, x, d, .non, v, .non, cPe, rfl, hv, rfl, .p hb, (fun z => absurd (hb.symm.trans z) Bool.false_ne_true), q _ (Kx.refl H)⟩
theorem act_law_book_right_3 {x : Addr} {q : Str} {cl : List (Str × Addr)} {c' : Addr} (cells : ∀ (A : Around) (outer : List Env) (s : Shared) (H : Hp), Env0 P w K mg base A outer s H → NdefX.CellsAt cl (nml_law_book_right_3.drop 1) [some (.ref x)] s.heap H) (m_Book_answer : MetX P w K mg base 5 cBo "answer" (sp_answerT cPe cHo cWd)) : ActOk P w K mg base 10 (mkl_law_book_right_3 q cl c') (sp_lamB hourB cBo cHo x) := by
  refine act_of (k := 9) (ws := [some (.ref x)]) scl_law_book_right_3 (fun pm ctv us hl => match us, hl with | [_], _ => rfl) (fun vs H Q E h => ?_) cells (fun f A outer s H vs Q E hr h => ?_)
  · obtain ⟨v, rfl, _⟩ := h
    rfl
  obtain ⟨v, rfl, dx, kn, g, ts, ws, d, B, hv, hb, q⟩ := h
  refine ⟨_, (pe_mtX m_Book_answer hr (by decide) (L2N.takes_of rfl rfl rfl rfl) (pv 1) (pa_cons pe_int (pa_cons (pv 0) (pa_cons pe_non pa_nil)))), ?_⟩
  exact ⟨_, rfl, x, dx, _, rfl, B.ob, rfl, _, rfl, x, .int 7, d, .non, .int 7, v, .non, cHo, rfl, rfl, hv, rfl, .o rfl hb, q _ (Kx.refl H)⟩
theorem act_law_book_right_4 {x : Addr} {q : Str} {cl : List (Str × Addr)} {c' : Addr} (cells : ∀ (A : Around) (outer : List Env) (s : Shared) (H : Hp), Env0 P w K mg base A outer s H → NdefX.CellsAt cl (nml_law_book_right_4.drop 1) [some (.ref x)] s.heap H) (m_Book_says : MetX P w K mg base 5 cBo "says" (sp_saysT cPe cHo)) : ActOk P w K mg base 10 (mkl_law_book_right_4 q cl c') (sp_lamB hourB cBo cHo x) := by
  refine act_of (k := 9) (ws := [some (.ref x)]) scl_law_book_right_4 (fun pm ctv us hl => match us, hl with | [_], _ => rfl) (fun vs H Q E h => ?_) cells (fun f A outer s H vs Q E hr h => ?_)
  · obtain ⟨v, rfl, _⟩ := h
    rfl
  obtain ⟨v, rfl, dx, kn, g, ts, ws, d, B, hv, hb, q⟩ := h
  refine ⟨_, (pe_mtX m_Book_says hr (by decide) (L2N.takes_of rfl rfl rfl rfl) (pv 1) (pa_cons pe_int (pa_cons (pv 0) pa_nil))), ?_⟩
  exact ⟨_, rfl, x, dx, _, rfl, B.ob, rfl, _, rfl, x, .int 0, d, .int 0, v, cHo, rfl, rfl, hv, .o rfl hb, (fun _ => hb), q _ (Kx.refl H)⟩
theorem act_law_book_right_5 {x : Addr} {q : Str} {cl : List (Str × Addr)} {c' : Addr} (cells : ∀ (A : Around) (outer : List Env) (s : Shared) (H : Hp), Env0 P w K mg base A outer s H → NdefX.CellsAt cl (nml_law_book_right_5.drop 1) [some (.ref x)] s.heap H) (m_Book_answer : MetX P w K mg base 5 cBo "answer" (sp_answerT cPe cHo cWd)) : ActOk P w K mg base 10 (mkl_law_book_right_5 q cl c') (sp_lamB ansB cBo cWd x) := by
  refine act_of (k := 9) (ws := [some (.ref x)]) scl_law_book_right_5 (fun pm ctv us hl => match us, hl with | [_], _ => rfl) (fun vs H Q E h => ?_) cells (fun f A outer s H vs Q E hr h => ?_)
  · obtain ⟨v, rfl, _⟩ := h
    rfl
  obtain ⟨v, rfl, dx, kn, g, ts, ws, d, B, hv, hb, q⟩ := h
  refine ⟨_, (pe_mtX m_Book_answer hr (by decide) (L2N.takes_of rfl rfl rfl rfl) (pv 1) (pa_cons pe_int (pa_cons pe_int (pa_cons (pv 0) pa_nil)))), ?_⟩
  exact ⟨_, rfl, x, dx, _, rfl, B.ob, rfl, _, rfl, x, .int 0, .int 0, d, .int 0, .int 0, v, cWd, rfl, rfl, rfl, hv, .a rfl rfl hb, q _ (Kx.refl H)⟩
theorem act_law_book_right_7 {x : Addr} {q : Str} {cl : List (Str × Addr)} {c' : Addr} (cells : ∀ (A : Around) (outer : List Env) (s : Shared) (H : Hp), Env0 P w K mg base A outer s H → NdefX.CellsAt cl (nml_law_book_right_7.drop 1) [some (.ref x)] s.heap H) (m_Book_answer : MetX P w K mg base 5 cBo "answer" (sp_answerT cPe cHo cWd)) : ActOk P w K mg base 10 (mkl_law_book_right_7 q cl c') (sp_lamB ansB cBo cWd x) := by
  refine act_of (k := 9) (ws := [some (.ref x)]) scl_law_book_right_7 (fun pm ctv us hl => match us, hl with | [_], _ => rfl) (fun vs H Q E h => ?_) cells (fun f A outer s H vs Q E hr h => ?_)
  · obtain ⟨v, rfl, _⟩ := h
    rfl
  obtain ⟨v, rfl, dx, kn, g, ts, ws, d, B, hv, hb, q⟩ := h
  refine ⟨_, (pe_mtX m_Book_answer hr (by decide) (L2N.takes_of rfl rfl rfl rfl) (pv 1) (pa_cons pe_int (pa_cons pe_int (pa_cons (pv 0) pa_nil)))), ?_⟩
  exact ⟨_, rfl, x, dx, _, rfl, B.ob, rfl, _, rfl, x, .int 0, .int 0, d, .int 0, .int 0, v, cWd, rfl, rfl, rfl, hv, .a rfl rfl hb, q _ (Kx.refl H)⟩
theorem act_law_book_right_6 {x : Addr} {q : Str} {cl : List (Str × Addr)} {c' : Addr} (cells : ∀ (A : Around) (outer : List Env) (s : Shared) (H : Hp), Env0 P w K mg base A outer s H → NdefX.CellsAt cl (nml_law_book_right_6.drop 1) [some (.ref x)] s.heap H) (m_Book_answer : MetX P w K mg base 5 cBo "answer" (sp_answer K cBo cT)) : ActOk P w K mg base 10 (mkl_law_book_right_6 q cl c') (sp_lamF cBo cT x) := by
  refine act_of (k := 9) (ws := [some (.ref x)]) scl_law_book_right_6 (fun pm ctv us hl => match us, hl with | [_], _ => rfl) (fun vs H Q E h => ?_) cells (fun f A outer s H vs Q E hr h => ?_)
  · obtain ⟨v, rfl, _⟩ := h
    rfl
  obtain ⟨v, rfl, dx, kn, g, ts, ws, a, rfl, B, ha, l80, full, q⟩ := h
  refine ⟨_, (pe_mtX m_Book_answer hr (by decide) (L2N.takes_of rfl rfl rfl rfl) (pv 1) (pa_cons pe_int (pa_cons pe_int (pa_cons (pv 0) pa_nil)))), ?_⟩
  exact ⟨_, rfl, x, dx, _, rfl, B.ob, rfl, _, rfl, x, dx, kn, g, 0, 0, a, ts, ws, rfl, B, by decide, by decide, by decide, by decide, ha, l80, (fun z => absurd z full), fun _ => q⟩
theorem act_law_book_right_8 {x : Addr} {q : Str} {cl : List (Str × Addr)} {c' : Addr} (cells : ∀ (A : Around) (outer : List Env) (s : Shared) (H : Hp), Env0 P w K mg base A outer s H → NdefX.CellsAt cl (nml_law_book_right_8.drop 1) [some (.ref x)] s.heap H) (m_Book_answer : MetX P w K mg base 5 cBo "answer" (sp_answer K cBo cT)) : ActOk P w K mg base 10 (mkl_law_book_right_8 q cl c') (sp_lamF cBo cT x) := by
  refine act_of (k := 9) (ws := [some (.ref x)]) scl_law_book_right_8 (fun pm ctv us hl => match us, hl with | [_], _ => rfl) (fun vs H Q E h => ?_) cells (fun f A outer s H vs Q E hr h => ?_)
  · obtain ⟨v, rfl, _⟩ := h
    rfl
  obtain ⟨v, rfl, dx, kn, g, ts, ws, a, rfl, B, ha, l80, full, q⟩ := h
  refine ⟨_, (pe_mtX m_Book_answer hr (by decide) (L2N.takes_of rfl rfl rfl rfl) (pv 1) (pa_cons pe_int (pa_cons pe_int (pa_cons (pv 0) pa_nil)))), ?_⟩
  exact ⟨_, rfl, x, dx, _, rfl, B.ob, rfl, _, rfl, x, dx, kn, g, 0, 0, a, ts, ws, rfl, B, by decide, by decide, by decide, by decide, ha, l80, (fun z => absurd z full), fun _ => q⟩
end
end CH
end

section
set_option Elab.async false
set_option linter.all false
set_option maxRecDepth 100000
set_option maxHeartbeats 4000000
/-! a book made, its words told: only new objects -/
namespace CH
open PySem PySem.Spec PyProof.Rows L2
theorem BookAt.sub {H H' : Hp} {cBo x dx kn : Addr} {h : Int} {ts : List Addr} {ws : List Wd} (s : Sub H H') (B : BookAt H cBo x dx kn h ts ws) : BookAt H' cBo x dx kn h ts ws := by
  refine ⟨s _ _ B.ob fun ps z => (by cases z), s _ _ B.kn fun ps z => (by cases z), ?_⟩
  have h := B.ws
  unfold TAt at h ⊢
  clear B
  induction h with
  | nil => exact .nil
  | cons a _ ih => exact .cons (s _ _ a fun ps z => (by cases z)) ih
section
variable {P : Program} {w : World} {K : PySem.W.Frag} {mg : Str → Option Value} {base : Heap} {c aA cBo : Addr}
def sp_Book_initN (K : PySem.W.Frag) (cBo : Addr) : Sp := fun vs H Q _ => ∃ (H0 : Hp) (x dx : Addr) (h : Int), vs = [.ref x, .int h] ∧ 0 ≤ h ∧ h ≤ 3 ∧ H = upd (upd H0 dx (.own x)) x (.ins cBo dx []) ∧ H0 x = none ∧ H0 dx = none ∧ dx ≠ x ∧
  ∀ (H' : Hp) (kn : Addr), Nw H0 H' → H0 kn = none → kn ≠ x → BookAt H' cBo x dx kn h [] [] → Q .non H'
theorem ok_Book_initN (D : MakT K mg "Book" cBo "Book.__init__" st_Book_init c) (e_Book : Own K mg "Book" cBo) (n1 : NoAttr K cBo "_hand") (n2 : NoAttr K cBo "_known") (f_check_hand : C8.Cal P w K mg base 4 "check_hand" sp_check_hand []) : C8.Mak P w K mg base 5 "Book" cBo (sp_Book_initN K cBo) [] := by
  refine mak_of D sc_Book_init (fun _ _ _ _ _ _ us hl => match us, hl with | [_, _], _ => rfl) (fun vs H Q E h => ?_) (fun f A outer s H vs Q E hr h => ?_)
  · obtain ⟨H0, x, dx, h, rfl, _⟩ := h
    rfl
  · obtain ⟨H0, x, dx, h, rfl, h0, h3, rfl, nx, ndx, ndxx, q⟩ := h
    have nd := sc_Book_init.nd
    have k0 : Nw H0 (upd (upd H0 dx (.own x)) x (.ins cBo dx [])) := (Nw.new ndx).mut nx
    have hx0 : (upd (upd H0 dx (.own x)) x (.ins cBo dx [])) x = some (.ins cBo dx []) := upd_same
    refine ⟨_, (pss_cons (ps_expr (C8.pe_c f_check_hand hr (by first | decide | exact hkp) (by rfl) (pa_cons (pv 1) pa_nil)))
      (pss_cons (ps_fld (pv 0) (pv 1) rfl)
      (pss_one (ps_fld (pv 0) (pe_lst pa_nil) rfl)))), ?_⟩
    generalize upd (upd H0 dx (.own x)) x (.ins cBo dx []) = H1 at k0 hx0 ⊢
    refine ⟨_, rfl, h, rfl, h0, h3, ?_⟩
    refine ⟨_, rfl, _, rfl, x, cBo, dx, _, rfl, hx0, e_Book.cl, n1, (by show 0 < 1000; decide), ?_⟩
    rw [show putF ("_hand" : Str) (.int h) [] = [(("_hand" : Str), V.int h)] from rfl]
    have k3 : Nw H0 (upd H1 x (.ins cBo dx [("_hand", .int h)])) := k0.mut nx
    have hx3 : (upd H1 x (.ins cBo dx [("_hand", .int h)])) x = some (.ins cBo dx [("_hand", .int h)]) := upd_same
    generalize upd H1 x (.ins cBo dx [("_hand", .int h)]) = H3 at k3 hx3 ⊢
    refine ⟨Nat.zero_le _, fun kn nkn => ?_⟩
    have nknx : kn ≠ x := fun z => by rw [z, hx3] at nkn; cases nkn
    have k4 : Nw H3 (upd H3 kn (.lst [])) := Nw.new nkn
    have hkn : (upd H3 kn (.lst [])) kn = some (.lst []) := upd_same
    generalize upd H3 kn (.lst []) = H4 at k4 hkn ⊢
    have hx4 := k4 _ _ hx3
    refine ⟨_, rfl, x, cBo, dx, _, rfl, hx4, e_Book.cl, n2, (by show 1 < 1000; decide), ?_⟩
    rw [show putF ("_known" : Str) (.ref kn) [(("_hand" : Str), V.int h)] = [(("_hand" : Str), V.int h), (("_known" : Str), V.ref kn)] from rfl]
    exact q _ kn ((k3.trans k4).mut nx) (k3.kx.f _ nkn) nknx ⟨upd_same, by rw [upd_ne nknx]; exact hkn, .nil⟩
def sp_all_wordsN (K : PySem.W.Frag) (cBo : Addr) : Sp := fun vs H Q _ => ∃ (x dx kn : Addr) (h : Int) (ts : List Addr) (ws : List Wd), vs = [.ref x] ∧ BookAt H cBo x dx kn h ts ws ∧
  ∀ (H' : Hp) (r : Addr), Nw H H' → H r = none → H' r = some (.lst (ts.map V.ref)) → Q (.ref r) H'
theorem ok_all_wordsN (D : MetT K cBo "all_words" "Book.all_words" st_Book_all_words c) (T : Tx K mg aA) (e_Book : Own K mg "Book" cBo) (n2 : NoAttr K cBo "_known") : C8.Met P w K mg base 1 cBo "all_words" (sp_all_wordsN K cBo) [] := by
  refine met_of D sc_Book_all_words (fun _ _ _ _ _ _ us hl => match us, hl with | [_], _ => rfl) (fun vs H Q E h => ?_) (fun f A outer s H vs Q E hr h => ?_)
  · obtain ⟨x, dx, kn, h, ts, ws, rfl, _⟩ := h
    rfl
  · obtain ⟨x, dx, kn, h, ts, ws, rfl, B, q⟩ := h
    have nd := sc_Book_all_words.nd
    refine ⟨_, (pss_one (ps_ret (pe_callTy call_list_of (by rfl) T.z_list (by decide +kernel) (pa_cons (pe_fld (pv 0) rfl) pa_nil)))), ?_⟩
    refine ⟨_, rfl, x, cBo, dx, _, _, rfl, B.ob, e_Book.cl, n2, rfl, kn, _, rfl, .inl (sq_of B.kn), fun r nr => ?_⟩
    exact q _ r (Nw.new nr) nr upd_same
end
end CH
end

section
set_option Elab.async false
set_option linter.all false
set_option maxRecDepth 100000
set_option maxHeartbeats 4000000
namespace CH
open PySem PySem.Spec PyProof.Rows L2
open GxR (TabB TabG Tabbed)
section
variable {P : Program} {w : World} {K : PySem.W.Frag} {mg : Str → Option Value} {base : Heap} {c aA cB cU cM cO cm cBo P1 : Addr} {cs : List Addr}
abbrev XT (P : Program) (w : World) (K : PySem.W.Frag) (mg : Str → Option Value) (base : Heap) (c fa : Addr) (A : Around) (outer : List Env) (s : Shared) (H : Hp) (E : XK) : Cx := (cxOf CX0 P w K mg base nm_law_tables_right "_law_tables_right" (defScope st_law_tables_right) fa (.ref c) A outer s H E).nox
/-- the doors that words are handed to -/
theorem refW {fa : Addr} {A : Around} {outer : List Env} {s : Shared} {H0 : Hp} {E : XK} {σ : L2.St} {x dx kn : Addr} {Hb : Hp} (hx : σ[2]? = some (some (.ref x))) (B : BookAt Hb cBo x dx kn 0 [] []) (tm : TabG Hb cm)
    (fj : ∀ B, Ext base B → CalX P w K mg B 7 "joined" (sp_jbad K cB cU)) (fh : ∀ B, Ext base B → CalX P w K mg B 8 "hours" (sp_door2 cB cU cM cm)) (fm : ∀ B, Ext base B → CalX P w K mg B 8 "hours_maybe" (sp_door2 cB cU cM cm)) (ff : ∀ B, Ext base B → CalX P w K mg B 7 "first" (sp_door2 cB cU cM cm))
    (ft : ∀ B, Ext base B → CalX P w K mg B 7 "table" (sp_door3 cB cU cM cO cm)) (fe : ∀ B, Ext base B → MetX P w K mg B 8 cBo "hear" (sp_hearT K cBo cB cU))
    {C : Addr} {Hm7 : Hp} (k : Kx Hb Hm7) {B' : Heap} (ext : Ext base B') (ok : (XT P w K mg base c fa A outer s H0 E).Ok) (L : Lent (XT P w K mg base c fa A outer s H0 E) σ B') {d : Th} {f : Addr} {v : V} (hb : WBad cB cU d C) (hv : At Hm7 d v) :
    ∀ mk ∈ [mkn_law_tables_right_0 s.heap.objs.size, mkn_law_tables_right_1 s.heap.objs.size, mkn_law_tables_right_2 s.heap.objs.size, mkn_law_tables_right_3 s.heap.objs.size, mkn_law_tables_right_4 s.heap.objs.size, mkn_law_tables_right_5 s.heap.objs.size, mkn_law_tables_right_6 s.heap.objs.size, mkn_law_tables_right_7 s.heap.objs.size], LamIs Hm7 f mk → Refuses P w K mg B' 10 Hm7 f v C := by
  intro mk hmk hl
  simp only [List.mem_cons, List.not_mem_nil, or_false] at hmk
  rcases hmk with rfl | rfl | rfl | rfl | rfl | rfl | rfl | rfl
  · exact hl.refuses (fun c' => act_law_tables_right_0 (cells0 ok L scl_law_tables_right_0) (fj B' ext)) fun H' Q E k' e => ⟨v, rfl, d, C, hv.k k', hb, k'.g _ (k.g _ tm), e⟩
  · exact hl.refuses (fun c' => act_law_tables_right_1 (cells0 ok L scl_law_tables_right_1) (fj B' ext)) fun H' Q E k' e => ⟨v, rfl, d, C, hv.k k', hb, k'.g _ (k.g _ tm), e⟩
  · exact hl.refuses (fun c' => act_law_tables_right_2 (cells0 ok L scl_law_tables_right_2) (fh B' ext)) fun H' Q E k' e => ⟨v, rfl, d, C, hv.k k', hb, k'.g _ (k.g _ tm), e⟩
  · exact hl.refuses (fun c' => act_law_tables_right_3 (cells0 ok L scl_law_tables_right_3) (fm B' ext)) fun H' Q E k' e => ⟨v, rfl, d, C, hv.k k', hb, k'.g _ (k.g _ tm), e⟩
  · exact hl.refuses (fun c' => act_law_tables_right_4 (cells0 ok L scl_law_tables_right_4) (ff B' ext)) fun H' Q E k' e => ⟨v, rfl, d, C, hv.k k', hb, k'.g _ (k.g _ tm), e⟩
  · exact hl.refuses (fun c' => act_law_tables_right_5 (cells0 ok L scl_law_tables_right_5) (ft B' ext)) fun H' Q E k' e => ⟨v, rfl, d, C, hv.k k', hb, k'.g _ (k.g _ tm), e⟩
  · exact hl.refuses (fun c' => act_law_tables_right_6 (x := x) (cells1 2 ok L scl_law_tables_right_6 (show (defScope st_law_tables_right).names.lookup ("_law_book" : Str) = some NameKind.cell by decide +kernel) rfl hx) (fe B' ext)) fun H' Q E k' e => ⟨v, rfl, dx, kn, 0, [], [], d, C, (B.k k).k k', ⟨by decide, (fun x hx => absurd hx List.not_mem_nil)⟩, (fun x hx => absurd hx List.not_mem_nil), hv.k k', hb, e⟩
  · exact hl.refuses (fun c' => act_law_tables_right_7 (x := x) (cells1 2 ok L scl_law_tables_right_7 (show (defScope st_law_tables_right).names.lookup ("_law_book" : Str) = some NameKind.cell by decide +kernel) rfl hx) (fe B' ext)) fun H' Q E k' e => ⟨v, rfl, dx, kn, 0, [], [], d, C, (B.k k).k k', ⟨by decide, (fun x hx => absurd hx List.not_mem_nil)⟩, (fun x hx => absurd hx List.not_mem_nil), hv.k k', hb, e⟩
theorem refM {fa : Addr} {A : Around} {outer : List Env} {s : Shared} {H0 : Hp} {E : XK} {σ : L2.St} {Hb : Hp} (tm : TabG Hb cm)
    (fh : ∀ B, Ext base B → CalX P w K mg B 8 "hours" (sp_door2 cB cU cM cm)) (fm : ∀ B, Ext base B → CalX P w K mg B 8 "hours_maybe" (sp_door2 cB cU cM cm)) (ff : ∀ B, Ext base B → CalX P w K mg B 7 "first" (sp_door2 cB cU cM cm)) (ft : ∀ B, Ext base B → CalX P w K mg B 7 "table" (sp_door3 cB cU cM cO cm))
    {Hm7 : Hp} (k : Kx Hb Hm7) {B' : Heap} (ext : Ext base B') (ok : (XT P w K mg base c fa A outer s H0 E).Ok) (L : Lent (XT P w K mg base c fa A outer s H0 E) σ B') {d : Th} {f : Addr} {v : V} (hb : meetB d = false) (hv : At Hm7 d v) :
    ∀ mk ∈ [mkn_law_tables_right_8 s.heap.objs.size, mkn_law_tables_right_9 s.heap.objs.size, mkn_law_tables_right_10 s.heap.objs.size, mkn_law_tables_right_11 s.heap.objs.size, mkn_law_tables_right_12 s.heap.objs.size], LamIs Hm7 f mk → Refuses P w K mg B' 10 Hm7 f v cM := by
  intro mk hmk hl
  simp only [List.mem_cons, List.not_mem_nil, or_false] at hmk
  rcases hmk with rfl | rfl | rfl | rfl | rfl
  · exact hl.refuses (fun c' => act_law_tables_right_8 (cells0 ok L scl_law_tables_right_8) (fh B' ext)) fun H' Q E k' e => ⟨v, rfl, d, hv.k k', hb, k'.g _ (k.g _ tm), e⟩
  · exact hl.refuses (fun c' => act_law_tables_right_9 (cells0 ok L scl_law_tables_right_9) (fm B' ext)) fun H' Q E k' e => ⟨v, rfl, d, hv.k k', hb, k'.g _ (k.g _ tm), e⟩
  · exact hl.refuses (fun c' => act_law_tables_right_10 (cells0 ok L scl_law_tables_right_10) (ff B' ext)) fun H' Q E k' e => ⟨v, rfl, d, hv.k k', hb, k'.g _ (k.g _ tm), e⟩
  · exact hl.refuses (fun c' => act_law_tables_right_11 (cells0 ok L scl_law_tables_right_11) (ft B' ext)) fun H' Q E k' e => ⟨v, rfl, d, hv.k k', hb, k'.g _ (k.g _ tm), e⟩
  · exact hl.refuses (fun c' => act_law_tables_right_12 (cells0 ok L scl_law_tables_right_12) (ft B' ext)) fun H' Q E k' e => ⟨v, rfl, d, hv.k k', hb, k'.g _ (k.g _ tm), e⟩
theorem refS {fa : Addr} {A : Around} {outer : List Env} {s : Shared} {H0 : Hp} {E : XK} {σ : L2.St} {Hb : Hp} (tm : TabG Hb cm) (ft : ∀ B, Ext base B → CalX P w K mg B 7 "table" (sp_door3 cB cU cM cO cm))
    {Hm7 : Hp} (k : Kx Hb Hm7) {B' : Heap} (ext : Ext base B') (ok : (XT P w K mg base c fa A outer s H0 E).Ok) (L : Lent (XT P w K mg base c fa A outer s H0 E) σ B') {d : Th} {f : Addr} {v : V} (hb : meetsB d = false) (hv : At Hm7 d v) :
    ∀ mk ∈ [mkn_law_tables_right_13 s.heap.objs.size], LamIs Hm7 f mk → Refuses P w K mg B' 10 Hm7 f v cM := by
  intro mk hmk hl
  rw [List.mem_singleton.mp hmk] at hl
  exact hl.refuses (fun c' => act_law_tables_right_13 (cells0 ok L scl_law_tables_right_13) (ft B' ext)) fun H' Q E k' e => ⟨v, rfl, d, hv.k k', hb, k'.g _ (k.g _ tm), e⟩
abbrev goodM : Th := .tup [.tup [.int 0], .int 1, .tup []]
theorem refO {fa : Addr} {A : Around} {outer : List Env} {s : Shared} {H0 : Hp} {E : XK} {σ : L2.St} {Hb : Hp} {vg : V} (hx : σ[5]? = some (some vg)) (hg : At Hb goodM vg) (tm : TabG Hb cm) (ft : ∀ B, Ext base B → CalX P w K mg B 7 "table" (sp_door3 cB cU cM cO cm))
    {Hm7 : Hp} (k : Kx Hb Hm7) {B' : Heap} (ext : Ext base B') (ok : (XT P w K mg base c fa A outer s H0 E).Ok) (L : Lent (XT P w K mg base c fa A outer s H0 E) σ B') {d : Th} {f : Addr} {v : V} (hb : oldsB 2 d = false) (hv : At Hm7 d v) :
    ∀ mk ∈ [mkn_law_tables_right_14 s.heap.objs.size], LamIs Hm7 f mk → Refuses P w K mg B' 10 Hm7 f v cO := by
  intro mk hmk hl
  rw [List.mem_singleton.mp hmk] at hl
  exact hl.refuses (fun c' => act_law_tables_right_14 (g := vg) (cells1 5 ok L scl_law_tables_right_14 (show (defScope st_law_tables_right).names.lookup ("_law_good" : Str) = some NameKind.cell by decide +kernel) rfl hx) (ft B' ext)) fun H' Q E k' e => ⟨v, rfl, d, goodM, hv.k k', (hg.k k).k k', by decide +kernel, hb, k'.g _ (k.g _ tm), e⟩
/-- the numbers but the first: none is an old -/
theorem noO_nums {m : Int} (h : 0 ≤ m) : ∀ d ∈ (numsD m).drop 1, oldB d = false := fun d hd => by
  have hd : d ∈ [Th.str "1", .bl true, .bl false, .lst [.int 1], .tup [.int 1], .dct, .int (-1), .int (-1 - m)] := hd
  simp only [List.mem_cons, List.not_mem_nil, or_false] at hd
  rcases hd with rfl | rfl | rfl | rfl | rfl | rfl | rfl | rfl
  all_goals first | rfl | exact decide_eq_false fun z => by omega
theorem olds_bad {ds : List Th} {t : Th} (m : t ∈ ds) (h : oldB t = false) : oldsB 2 (.lst ds) = false := by
  show (_ && ds.all oldB) = false
  rw [show ds.all oldB = false from List.all_eq_false.mpr ⟨t, m, by rw [h]; exact Bool.false_ne_true⟩, Bool.and_false]
def wU1 : List Wd := [⟨1, 0, 0, 0, "yes"⟩, ⟨1, 0, 0, 0, "no"⟩]
def wU2 : List Wd := [⟨9, 3, 1, 2, "no"⟩, ⟨1, 0, 0, 0, "no"⟩, ⟨9, 3, 2, 1, "no"⟩]
theorem unl {cB cU : Addr} : ∀ d ∈ [Th.lst (wU1.map Wd.th), .lst (wU2.map Wd.th)], WBad cB cU d cU := fun d hd => by
  simp only [List.mem_cons, List.not_mem_nil, or_false] at hd
  rcases hd with rfl | rfl
  · exact .unlike (by decide) (by decide +kernel) (by decide +kernel)
  · exact .unlike (by decide) (by decide +kernel) (by decide +kernel)
/-- a book that knows nothing -/
theorem c2_empty {q : Str} {Hm6 H1 : Hp} {σ : L2.St} {j : Nat} {x dx kn : Addr} {g : Int} (hx : σ[j]? = some (some (.ref x))) (B : BookAt Hm6 cBo x dx kn g [] []) (h : StT P1 q Hm6 H1) (Q2 : Bool → Hp → Prop) (q2 : ∀ H2, StT P1 q Hm6 H2 → Q2 false H2) :
    tTest (tOp (rNeD K) (tMeth cBo "all_words" (sp_all_wordsN K cBo) [] C8.E0 (tVar j) tNil) (tLst tNil)) σ H1 Q2 := by
  obtain ⟨Hm9, ps9, rfl, T9, k9⟩ := h
  have B9 := B.k k9
  refine ⟨_, hx, x, dx, _, rfl, T9.rd B9.ob, rfl, x, dx, kn, g, [], [], rfl, B9.sub T9.sub, fun H' r n nr hr => ?_⟩
  obtain ⟨Hm10, rfl, T10, n10, s10⟩ := nw_back T9 n
  have hr10 := s10 _ _ hr fun ps z => (by cases z)
  refine ⟨Nat.zero_le _, fun z nz => ?_⟩
  obtain ⟨nz', e, T11⟩ := T10.new (u := .lst []) nz
  rw [e]
  have k11 := Kx.new (u := .lst []) nz'
  have hz : (upd Hm10 z (.lst [])) z = some (.lst []) := upd_same
  generalize upd Hm10 z (.lst []) = Hm11 at T11 k11 hz ⊢
  refine ⟨isD [], isD [], isD_dp (sq_of (T11.rd (k11.lst hr10))), isD_dp (sq_of (T11.rd hz)), isD_sh _, isD_sh _, _, rfl, ?_⟩
  rw [isD_eqv, decide_eq_true rfl]
  exact q2 _ ⟨Hm11, ps9, rfl, T11, (k9.trans n10.kx).trans k11⟩
def sp_tables (P1 cm : Addr) : Sp := fun vs H Q _ => ∃ (m : Int) (Hm : Hp) (ps : Array Value), vs = [.int m] ∧ 0 ≤ m ∧ H = ov Hm [(P1, ps)] ∧ Tb Hm P1 ps (qlam "_law_tables_right") ∧ TabG Hm cm ∧ ∀ (Hm' : Hp) (ps' : Array Value), Kx Hm Hm' → Tb Hm' P1 ps' (qlam "_law_tables_right") → Q (.bl true) (ov Hm' [(P1, ps')])
theorem ok_law_tables_right (D : DefT K mg "_law_tables_right" st_law_tables_right c) (T : Tx K mg aA) (TB : TabB base mg c P1) (f__law_no_numbers : C8.Cal P w K mg base 1 "_law_no_numbers" sp_no_numbers []) (f__law_no_words : C8.Cal P w K mg base 2 "_law_no_words" sp_no_words []) (f__law_no_meetings : C8.Cal P w K mg base 2 "_law_no_meetings" sp_no_meetings [])
    (k_Book : C8.Mak P w K mg base 5 "Book" cBo (sp_Book_initN K cBo) []) (m_Book_all_words : C8.Met P w K mg base 1 cBo "all_words" (sp_all_wordsN K cBo) []) (fj : ∀ B, Ext base B → CalX P w K mg B 7 "joined" (sp_jbad K cB cU)) (fh : ∀ B, Ext base B → CalX P w K mg B 8 "hours" (sp_door2 cB cU cM cm)) (fm : ∀ B, Ext base B → CalX P w K mg B 8 "hours_maybe" (sp_door2 cB cU cM cm)) (ff : ∀ B, Ext base B → CalX P w K mg B 7 "first" (sp_door2 cB cU cM cm))
    (ft : ∀ B, Ext base B → CalX P w K mg B 7 "table" (sp_door3 cB cU cM cO cm)) (fe : ∀ B, Ext base B → MetX P w K mg B 8 cBo "hear" (sp_hearT K cBo cB cU)) (h0 : cs[0]? = some cB) (h1 : cs[1]? = some cM) (h2 : cs[2]? = some cO) (h7 : cs[7]? = some cU)
    (f__law_each : ∀ B, Ext base B → C8.Cal P w K mg B 12 "_law_each" (sp_each P w K mg cs B) []) : C8.Cal P w K mg base 13 "_law_tables_right" (sp_tables P1 cm) [] := by
  refine cal_of D sc_law_tables_right (fun _ _ _ _ _ _ us hl => match us, hl with | [_], _ => rfl) (fun vs H Q E h => ?_) (fun fa A outer s H vs Q E hr h => ?_)
  · obtain ⟨m, Hm, ps, rfl, _⟩ := h
    rfl
  obtain ⟨m, Hm, ps, rfl, m0, rfl, Tt, tm, q⟩ := h
  have nd := sc_law_tables_right.nd
  have TL : LamX.TabB base mg c P1 := ⟨TB.code, TB.bm, TB.gP⟩
  have hcode : (cxOf CX0 P w K mg base nm_law_tables_right "_law_tables_right" (defScope st_law_tables_right) fa (.ref c) A outer s (ov Hm [(P1, ps)]) E).nox.env.code = .ref c := rfl
  refine ⟨_, (pss_cons (ps_asg (pe_tup (pa_cons (C8.pe_c f__law_no_words hr (by first | decide | exact hkp) (by rfl) (pa_cons (pv 0) pa_nil)) (pa_cons (C8.pe_mk k_Book hr (by first | decide | exact hkp) (by rfl) (pa_cons pe_int pa_nil)) pa_nil))) (pg_tup (by rfl) (pgs_cons (pg_name (i := 1) nd rfl (Or.inl rfl)) (pgs_cons (pg_name (i := 2) nd rfl (Or.inr rfl)) pgs_nil))))
      (pss_cons (ps_set (i := 3) nd rfl (Or.inl rfl) (pe_lst (pa_cons (pe_lam (q := qlam "_law_tables_right") TL hcode rfl rfl lfr_law_tables_right_0) (pa_cons (pe_lam (q := qlam "_law_tables_right") TL hcode rfl rfl lfr_law_tables_right_1) (pa_cons (pe_lam (q := qlam "_law_tables_right") TL hcode rfl rfl lfr_law_tables_right_2) pa_nil)))))
      (pss_cons (ps_set (i := 3) nd rfl (Or.inl rfl) (pe_op op_cat (pv 3) (pe_lst (pa_cons (pe_lam (q := qlam "_law_tables_right") TL hcode rfl rfl lfr_law_tables_right_3) (pa_cons (pe_lam (q := qlam "_law_tables_right") TL hcode rfl rfl lfr_law_tables_right_4) pa_nil)))))
      (pss_cons (ps_expr (pe_bm PySem.F.plainAttrs_list PySem.F.slot_list_append PySem.F.type_list_append mt_append (pv 3) (pa_cons (pe_lam (q := qlam "_law_tables_right") TL hcode rfl rfl lfr_law_tables_right_5) pa_nil)))
      (pss_cons (ps_if (PW.pt (pw_or (pt_not (pt_val (pe_lend f__law_each (fun _ => rfl) rfl rfl hr (by decide) (by rfl) (pa_cons (pe_op op_cat (pv 3) (pe_lst (pa_cons (pe_lam (q := qlam "_law_tables_right") TL hcode rfl rfl lfr_law_tables_right_6) pa_nil))) (pa_cons (pv 1) (pa_cons pe_int pa_nil)))))) (pw_or1 (pt_cmpR (op_neD hr.units) (C8.pe_mt0 m_Book_all_words hr (by first | decide | exact hkp) (pv 2)) (pe_lst pa_nil) (nomark _))))) (pss_one (ps_ret pe_bl)) pss_nil)
      (pss_cons (ps_set (i := 4) nd rfl (Or.inl rfl) (pe_lst (pa_cons (pe_lst (pa_cons (pe_tup (pa_cons pe_int (pa_cons pe_int (pa_cons pe_int (pa_cons pe_int (pa_cons pe_str pa_nil)))))) (pa_cons (pe_tup (pa_cons pe_int (pa_cons pe_int (pa_cons pe_int (pa_cons pe_int (pa_cons pe_str pa_nil)))))) pa_nil))) (pa_cons (pe_lst (pa_cons (pe_tup (pa_cons pe_int (pa_cons pe_int (pa_cons pe_int (pa_cons pe_int (pa_cons pe_str pa_nil)))))) (pa_cons (pe_tup (pa_cons pe_int (pa_cons pe_int (pa_cons pe_int (pa_cons pe_int (pa_cons pe_str pa_nil)))))) (pa_cons (pe_tup (pa_cons pe_int (pa_cons pe_int (pa_cons pe_int (pa_cons pe_int (pa_cons pe_str pa_nil)))))) pa_nil)))) pa_nil))))
      (pss_cons (ps_if (PW.pt (pw_or (pt_not (pt_val (pe_lend f__law_each (fun _ => rfl) rfl rfl hr (by decide) (by rfl) (pa_cons (pe_op op_cat (pv 3) (pe_lst (pa_cons (pe_lam (q := qlam "_law_tables_right") TL hcode rfl rfl lfr_law_tables_right_7) pa_nil))) (pa_cons (pv 4) (pa_cons pe_int pa_nil)))))) (pw_or1 (pt_cmpR (op_neD hr.units) (C8.pe_mt0 m_Book_all_words hr (by first | decide | exact hkp) (pv 2)) (pe_lst pa_nil) (nomark _))))) (pss_one (ps_ret pe_bl)) pss_nil)
      (pss_cons (ps_set (i := 3) nd rfl (Or.inl rfl) (pe_lst (pa_cons (pe_lam (q := qlam "_law_tables_right") TL hcode rfl rfl lfr_law_tables_right_8) (pa_cons (pe_lam (q := qlam "_law_tables_right") TL hcode rfl rfl lfr_law_tables_right_9) (pa_cons (pe_lam (q := qlam "_law_tables_right") TL hcode rfl rfl lfr_law_tables_right_10) pa_nil)))))
      (pss_cons (ps_set (i := 3) nd rfl (Or.inl rfl) (pe_op op_cat (pv 3) (pe_lst (pa_cons (pe_lam (q := qlam "_law_tables_right") TL hcode rfl rfl lfr_law_tables_right_11) (pa_cons (pe_lam (q := qlam "_law_tables_right") TL hcode rfl rfl lfr_law_tables_right_12) pa_nil)))))
      (pss_cons (ps_if (pt_not (pt_val (pe_lend f__law_each (fun _ => rfl) rfl rfl hr (by decide) (by rfl) (pa_cons (pv 3) (pa_cons (C8.pe_c f__law_no_meetings hr (by first | decide | exact hkp) (by rfl) (pa_cons (pv 0) pa_nil)) (pa_cons pe_int pa_nil)))))) (pss_one (ps_ret pe_bl)) pss_nil)
      (pss_cons (ps_set (i := 5) nd rfl (Or.inr rfl) (pe_tup (pa_cons (pe_tup (pa_cons pe_int pa_nil)) (pa_cons pe_int (pa_cons (pe_tup pa_nil) pa_nil)))))
      (pss_cons (ps_if (pt_not (pt_val (pe_lend f__law_each (fun _ => rfl) rfl rfl hr (by decide) (by rfl) (pa_cons (pe_lst (pa_cons (pe_lam (q := qlam "_law_tables_right") TL hcode rfl rfl lfr_law_tables_right_13) pa_nil)) (pa_cons (pe_lst (pa_cons pe_non (pa_cons pe_int (pa_cons pe_str (pa_cons (pe_tup pa_nil) (pa_cons (pe_tup (pa_cons (pv 5) pa_nil)) (pa_cons pe_dnewK (pa_cons (pe_op op_rep (pe_lst (pa_cons (pv 5) pa_nil)) pe_int) (pa_cons (pv 5) pa_nil))))))))) (pa_cons pe_int pa_nil)))))) (pss_one (ps_ret pe_bl)) pss_nil)
      (pss_cons (ps_set (i := 6) nd rfl (Or.inl rfl) (pe_lst (pa_cons pe_non (pa_cons pe_int (pa_cons pe_str (pa_cons (pe_tup pa_nil) (pa_cons (pe_tup (pa_cons pe_int (pa_cons pe_int pa_nil))) (pa_cons pe_dnewK (pa_cons (pe_lst pa_nil) (pa_cons (pe_lst (pa_cons pe_int pa_nil)) (pa_cons (pe_lst (pa_cons pe_int (pa_cons pe_int (pa_cons pe_int pa_nil)))) (pa_cons (pe_lst (pa_cons pe_int (pa_cons pe_int pa_nil))) (pa_cons (pe_lst (pa_cons (pe_op op_add pe_int (pv 0)) (pa_cons pe_int pa_nil))) pa_nil)))))))))))))
      (pss_cons (ps_for PassesOwn.never rfl (pi_list (pe_slice sl_list (C8.pe_c f__law_no_numbers hr (by first | decide | exact hkp) (by rfl) (pa_cons (pv 0) pa_nil)) (po_some pe_int) po_none)) (pg_name (i := 7) nd rfl (Or.inl rfl)) (pss_one (ps_expr (pe_bm PySem.F.plainAttrs_list PySem.F.slot_list_extend PySem.F.type_list_extend mt_extend (pv 6) (pa_cons (pe_lst (pa_cons (pe_lst (pa_cons (pv 7) (pa_cons pe_non pa_nil))) (pa_cons (pe_lst (pa_cons pe_non (pa_cons (pv 7) pa_nil))) (pa_cons (pe_lst (pa_cons pe_int (pa_cons (pv 7) pa_nil))) pa_nil)))) pa_nil)))))
      (pss_one (ps_ret (pe_lend f__law_each (fun _ => rfl) rfl rfl hr (by decide) (by rfl) (pa_cons (pe_lst (pa_cons (pe_lam (q := qlam "_law_tables_right") TL hcode rfl rfl lfr_law_tables_right_14) pa_nil)) (pa_cons (pv 6) (pa_cons pe_int pa_nil)))))))))))))))))))), ?_⟩
  refine ⟨_, rfl, m, rfl, m0, fun vb H1 dsb n1 hb lb bb => ?_⟩
  obtain ⟨Hm1, rfl, T1, n1', s1⟩ := nw_back Tt n1
  replace hb := hb.mono s1
  refine fun x dx nx ndx nxx => ⟨_, x, dx, 0, rfl, by decide, by decide, rfl, nx, ndx, nxx, fun H2 kn n2 nkn nkx B => ⟨rfl, ?_⟩⟩
  obtain ⟨Hm2, rfl, T2, n2', s2⟩ := nw_back T1 n2
  replace B := B.sub s2
  refine ⟨(by show 2 ≤ sizeLine; decide), fun t nt => ?_⟩
  obtain ⟨nt', e, T3⟩ := T2.new (u := .tup [vb, .ref x]) nt
  rw [e]
  have k3 : Kx Hm (upd Hm2 t (.tup [vb, .ref x])) := (n1'.trans n2').kx.trans (Kx.new nt')
  have ht : (upd Hm2 t (.tup [vb, .ref x])) t = some (.tup [vb, .ref x]) := upd_same
  replace B := B.k (Kx.new (u := .tup [vb, .ref x]) nt')
  replace hb := (hb.k n2'.kx).k (Kx.new (u := .tup [vb, .ref x]) nt')
  generalize upd Hm2 t (.tup [vb, .ref x]) = Hm3 at T3 k3 ht B hb ⊢
  refine ⟨t, _, rfl, st_of (T3.rd ht), rfl, _, _, rfl, _, _, rfl, rfl, ?_⟩
  clear e nt' nt s2 n2' T2 n2 nkn nkx nx ndx nxx s1 n1' T1 n1 Tt
  dsimp only
  refine asg_getL (mks := [mkn_law_tables_right_0 s.heap.objs.size, mkn_law_tables_right_1 s.heap.objs.size, mkn_law_tables_right_2 s.heap.objs.size]) (fun Q' h => lst_lam (mal_cons (mko_law_tables_right_0 s.heap.objs.size) (mal_cons (mko_law_tables_right_1 s.heap.objs.size) (mal_cons (mko_law_tables_right_2 s.heap.objs.size) mal_nil))) (by exact Nat.le_of_ble_eq_true rfl) T3 h) fun p4 fs4 Hm4 ps4 k4 np4 T4 l4 => ?_
  refine asg_getL (mks := [mkn_law_tables_right_0 s.heap.objs.size, mkn_law_tables_right_1 s.heap.objs.size, mkn_law_tables_right_2 s.heap.objs.size] ++ [mkn_law_tables_right_3 s.heap.objs.size, mkn_law_tables_right_4 s.heap.objs.size]) (fun Q' h => cat_lam rfl (mal_cons (mko_law_tables_right_3 s.heap.objs.size) (mal_cons (mko_law_tables_right_4 s.heap.objs.size) mal_nil)) (by exact Nat.le_of_ble_eq_true rfl) T4 l4 h) fun p5 fs5 Hm5 ps5 k5 np5 T5 l5 => ?_
  refine seq_of (app_lam rfl (mko_law_tables_right_5 s.heap.objs.size) (by exact Nat.le_of_ble_eq_true rfl) T5 l5 k5 np5 fun fs6 Hm6 ps6 k6 T6 l6 => ?_)
  dsimp only
  have kb6 : Kx Hm3 Hm6 := k4.trans k6
  have tm3 := k3.g _ tm
  refine if_or_no (A := StT P1 (qlam "_law_tables_right") Hm6) (B := StT P1 (qlam "_law_tables_right") Hm6) (each_cps (i := 0) (A := fun d => WBad cB cU d cB) h0 (getL_cat (mks := [mkn_law_tables_right_6 s.heap.objs.size]) rfl (mal_cons (mko_law_tables_right_6 s.heap.objs.size) mal_nil) (by exact Nat.le_of_ble_eq_true rfl) T6 l6) (fun Hm7 ps7 k7 T7 => getT_ma (Γ := [(vb, .lst dsb)]) (mk_var rfl List.mem_cons_self) T7 (gamA1 (hb.k (kb6.trans k7))) (Nat.le_trans lb (by decide)) fun d hd => .bad (bb d hd))
    (fun Hm7 k7 B' ext ok L mk hmk d f v hd hl hv => refW rfl B tm3 fj fh fm ff ft fe (kb6.trans k7) ext ok L hd hv mk (by grind) hl)) (fun H1 hH1 Q2 q2 => c2_empty rfl (B.k kb6) hH1 Q2 q2) fun H7 hH7 => ?_
  obtain ⟨Hm7, ps7, rfl, T7, k7⟩ := hH7
  refine asg_ov (Γ := []) (d := .lst [.lst (wU1.map Wd.th), .lst (wU2.map Wd.th)]) ?_ T7 gamA0 fun vu Hm8 n8 T8 hu => ?_
  · repeat' (first | exact mks_nil | apply mks_cons | exact mk_non | exact mk_bl | exact mk_int | exact mk_str | exact mk_neg | exact mk_dct | exact mk_varI rfl | exact mk_var rfl List.mem_cons_self | exact mk_var rfl (List.mem_cons_of_mem _ List.mem_cons_self) | exact mk_var rfl (List.mem_cons_of_mem _ (List.mem_cons_of_mem _ List.mem_cons_self)) | apply mk_tup | apply mk_lst | apply mk_add | apply mk_sub | apply mk_rep | apply mk_list | apply mk_take | apply mk_catT | apply mk_cat | exact Nat.le_of_ble_eq_true rfl | exact List.cons_ne_nil _ _)
  have kb8 : Kx Hm3 Hm8 := (kb6.trans k7).trans n8.kx
  have l8 := (l6.k k7).k n8.kx
  refine if_or_no (A := StT P1 (qlam "_law_tables_right") Hm8) (B := StT P1 (qlam "_law_tables_right") Hm8) (each_cps (i := 7) (A := fun d => WBad cB cU d cU) h7 (getL_cat (mks := [mkn_law_tables_right_7 s.heap.objs.size]) rfl (mal_cons (mko_law_tables_right_7 s.heap.objs.size) mal_nil) (by exact Nat.le_of_ble_eq_true rfl) T8 l8) (fun Hm9 ps9 k9 T9 => getT_ma (Γ := [(vu, .lst [.lst (wU1.map Wd.th), .lst (wU2.map Wd.th)])]) (mk_var rfl List.mem_cons_self) T9 (gamA1 (hu.k k9)) (by decide) unl)
    (fun Hm9 k9 B' ext ok L mk hmk d f v hd hl hv => refW rfl B tm3 fj fh fm ff ft fe (kb8.trans k9) ext ok L hd hv mk (by grind) hl)) (fun H1 hH1 Q2 q2 => c2_empty rfl (B.k kb8) hH1 Q2 q2) fun H9 hH9 => ?_
  obtain ⟨Hm9, ps9, rfl, T9, k9⟩ := hH9
  have kb9 := kb8.trans k9
  clear l8 l6 l5 l4 hu
  refine asg_getL (mks := [mkn_law_tables_right_8 s.heap.objs.size, mkn_law_tables_right_9 s.heap.objs.size, mkn_law_tables_right_10 s.heap.objs.size]) (fun Q' h => lst_lam (mal_cons (mko_law_tables_right_8 s.heap.objs.size) (mal_cons (mko_law_tables_right_9 s.heap.objs.size) (mal_cons (mko_law_tables_right_10 s.heap.objs.size) mal_nil))) (by exact Nat.le_of_ble_eq_true rfl) T9 h) fun p10 fs10 Hm10 ps10 k10 np10 T10 l10 => ?_
  refine asg_getL (mks := [mkn_law_tables_right_8 s.heap.objs.size, mkn_law_tables_right_9 s.heap.objs.size, mkn_law_tables_right_10 s.heap.objs.size] ++ [mkn_law_tables_right_11 s.heap.objs.size, mkn_law_tables_right_12 s.heap.objs.size]) (fun Q' h => cat_lam rfl (mal_cons (mko_law_tables_right_11 s.heap.objs.size) (mal_cons (mko_law_tables_right_12 s.heap.objs.size) mal_nil)) (by exact Nat.le_of_ble_eq_true rfl) T10 l10 h) fun p11 fs11 Hm11 ps11 k11 np11 T11 l11 => ?_
  have kb11 := (kb9.trans k10).trans k11
  have tm11 := kb11.g _ tm3
  refine if_no (A := StT P1 (qlam "_law_tables_right") Hm11) (each_cps (i := 1) (A := fun d => meetB d = false) h1 (getL_var rfl T11 l11) (fun Hm12 ps12 k12 T12 Q' q' => ⟨_, rfl, m, rfl, m0, fun v H' ds n hv lv bv => ?_⟩)
    (fun Hm12 k12 B' ext ok L mk hmk d f v hd hl hv => refM tm11 fh fm ff ft k12 ext ok L hd hv mk (by grind) hl)) fun H12 hH12 => ?_
  · obtain ⟨Hm', rfl, T', n', s'⟩ := nw_back T12 n
    exact q' v ds Hm' n' T' (hv.mono s') (Nat.le_trans lv (by decide)) bv
  obtain ⟨Hm12, ps12, rfl, T12, k12⟩ := hH12
  refine asg_ov (Γ := []) (d := goodM) (by repeat' (first | exact mks_nil | apply mks_cons | exact mk_non | exact mk_bl | exact mk_int | exact mk_str | exact mk_neg | exact mk_dct | exact mk_varI rfl | exact mk_var rfl List.mem_cons_self | exact mk_var rfl (List.mem_cons_of_mem _ List.mem_cons_self) | exact mk_var rfl (List.mem_cons_of_mem _ (List.mem_cons_of_mem _ List.mem_cons_self)) | apply mk_tup | apply mk_lst | apply mk_add | apply mk_sub | apply mk_rep | apply mk_list | apply mk_take | apply mk_catT | apply mk_cat | exact Nat.le_of_ble_eq_true rfl | exact List.cons_ne_nil _ _)) T12 gamA0 fun vg Hm13 n13 T13 hg => ?_
  have kb13 := (kb11.trans k12).trans n13.kx
  have tm13 := kb13.g _ tm3
  refine if_no (A := StT P1 (qlam "_law_tables_right") Hm13) (each_cps (i := 1) (A := fun d => meetsB d = false) h1 (getL_lst (mks := [mkn_law_tables_right_13 s.heap.objs.size]) (mal_cons (mko_law_tables_right_13 s.heap.objs.size) mal_nil) (by exact Nat.le_of_ble_eq_true rfl) T13) (fun Hm14 ps14 k14 T14 => getT_ma (Γ := [(vg, goodM)]) (ds := [.non, .int 5, .str "met", .tup [], .tup [goodM], .dct, .lst (List.replicate 7 [goodM]).flatten, goodM]) ?_ T14 (gamA1 (hg.k k14)) (by exact Nat.le_of_ble_eq_true rfl) (all_no (by decide +kernel)))
    (fun Hm14 k14 B' ext ok L mk hmk d f v hd hl hv => refS tm13 ft k14 ext ok L hd hv mk hmk hl)) fun H14 hH14 => ?_
  · repeat' (first | exact mks_nil | apply mks_cons | exact mk_non | exact mk_bl | exact mk_int | exact mk_str | exact mk_neg | exact mk_dct | exact mk_varI rfl | exact mk_var rfl List.mem_cons_self | exact mk_var rfl (List.mem_cons_of_mem _ List.mem_cons_self) | exact mk_var rfl (List.mem_cons_of_mem _ (List.mem_cons_of_mem _ List.mem_cons_self)) | apply mk_tup | apply mk_lst | apply mk_add | apply mk_sub | apply mk_rep | apply mk_list | apply mk_take | apply mk_catT | apply mk_cat | exact Nat.le_of_ble_eq_true rfl | exact List.cons_ne_nil _ _)
  obtain ⟨Hm14, ps14, rfl, T14, k14⟩ := hH14
  have kb14 := kb13.trans k14
  refine asg_lst (S := []) (Γ := []) (by repeat' (first | exact mks_nil | apply mks_cons | exact mk_non | exact mk_bl | exact mk_int | exact mk_str | exact mk_neg | exact mk_dct | exact mk_varI rfl | exact mk_var rfl List.mem_cons_self | exact mk_var rfl (List.mem_cons_of_mem _ List.mem_cons_self) | exact mk_var rfl (List.mem_cons_of_mem _ (List.mem_cons_of_mem _ List.mem_cons_self)) | apply mk_tup | apply mk_lst | apply mk_add | apply mk_sub | apply mk_rep | apply mk_list | apply mk_take | apply mk_catT | apply mk_cat | exact Nat.le_of_ble_eq_true rfl | exact List.cons_ne_nil _ _)) (by exact Nat.le_of_ble_eq_true rfl) gam0 noS fun p15 H15 n15 np15 o15 => ?_
  have g15 : Gr (oldsB 2) (ov Hm14 [(P1, ps14)]) H15 p15 20 := by
    refine ⟨n15, np15, _, o15, Nol.le (n := 11) (nol_cons rfl (nol_cons rfl (nol_cons rfl (nol_cons rfl (nol_cons rfl (nol_cons rfl (nol_cons rfl (nol_cons rfl (nol_cons rfl (nol_cons rfl (nol_cons (olds_bad List.mem_cons_self (decide_eq_false ?_)) nol_nil))))))))))) (by decide)⟩
    omega
  clear o15 n15 np15
  have am : Ma [p15] [] (tCall sp_no_numbers [] C8.E0 (tCons (tVar 0) tNil)) (((((((((List.set (L2.start nm_law_tables_right [V.int m]) 1 (some vb)).set 2 (some (V.ref x))).set 3 (some (V.ref p4))).set 3 (some (V.ref p5))).set 4 (some vu)).set 3 (some (V.ref p10))).set 3 (some (V.ref p11))).set 5 (some vg)).set 6 (some (V.ref p15))) (.lst (numsD m)) := fun Hx Q' _ hS q' => ⟨_, rfl, [p15], m, rfl, hS, q'⟩
  refine seq_of (for_ma (S := [p15]) (Γ := []) (mk_dropL am) gam0 g15.pS fun r16 ys16 H16 n16 _ hr16 _ => ?_)
  have g16 := g15.nw n16
  have nn := noO_nums m0
  have ln : ((numsD m).drop 1).length = 8 := rfl
  generalize (numsD m).drop 1 = nums at hr16 nn ln
  refine for_gr (m := 3) g16 hr16 rfl (fun i y d Hx E hd hi gx hy more => ?_) fun v17 H17 g17 => ?_
  · have hdn := nn d hd
    refine gx.ext (m := 3) (Γ := [(y, d)]) (es := [.lst [d, .non], .lst [.non, d], .lst [.int 0, d]]) rfl ?_ ?_ ?_ (gam1 hy) fun Hy gy sy => more Hy gy sy
    · repeat' (first | exact mks_nil | apply mks_cons | exact mk_non | exact mk_bl | exact mk_int | exact mk_str | exact mk_neg | exact mk_dct | exact mk_varI rfl | exact mk_var rfl List.mem_cons_self | exact mk_var rfl (List.mem_cons_of_mem _ List.mem_cons_self) | exact mk_var rfl (List.mem_cons_of_mem _ (List.mem_cons_of_mem _ List.mem_cons_self)) | apply mk_tup | apply mk_lst | apply mk_add | apply mk_sub | apply mk_rep | apply mk_list | apply mk_take | apply mk_catT | apply mk_cat | exact Nat.le_of_ble_eq_true rfl | exact List.cons_ne_nil _ _)
    · omega
    · exact nol_cons (olds_bad List.mem_cons_self hdn) (nol_cons (olds_bad (List.mem_cons_of_mem _ List.mem_cons_self) hdn) (nol_cons (olds_bad (List.mem_cons_of_mem _ List.mem_cons_self) hdn) nol_nil))
  rw [ln] at g17
  obtain ⟨ds17, o17, b17⟩ := g17.o
  obtain ⟨Hm17, rfl, T17, n17, s17⟩ := nw_back T14 g17.k
  have ho17 := o17.at.mono s17
  have k17 := kb14.trans n17.kx
  have hg17 := (hg.k k14).k n17.kx
  have tm17 := k17.g _ tm3
  dsimp only
  show tLend _ _ _ _ _ _
  refine each_cps (P := P) (w := w) (K := K) (mg := mg) (cs := cs) (i := 2) (A := fun d => oldsB 2 d = false) h2 (getL_lst (mks := [mkn_law_tables_right_14 s.heap.objs.size]) (mal_cons (mko_law_tables_right_14 s.heap.objs.size) mal_nil) (by exact Nat.le_of_ble_eq_true rfl) T17) (fun Hm18 ps18 k18 T18 => getT_ma (Γ := [(V.ref p15, .lst ds17)]) (mk_var rfl List.mem_cons_self) T18 (gamA1 (ho17.k k18)) (Nat.le_trans b17.1 (by decide)) b17.2)
    (fun Hm18 k18 B' ext ok L mk hmk d f v hd hl hv => refO rfl hg17 tm17 ft k18 ext ok L hd hv mk hmk hl) _ fun H18 hH18 => ?_
  obtain ⟨Hm18, ps18, rfl, T18, k18⟩ := hH18
  exact q Hm18 ps18 ((k3.trans k17).trans k18) T18
end
end CH
end

section
set_option Elab.async false
set_option linter.all false
set_option maxRecDepth 100000
set_option maxHeartbeats 4000000
namespace CH
open PySem PySem.Spec PyProof.Rows L2
open GxR (TabB TabG Tabbed)
section
variable {P : Program} {w : World} {K : PySem.W.Frag} {mg : Str → Option Value} {base : Heap} {c aA cBo cHa cPe cHo cWd cT P1 : Addr} {cs : List Addr}
abbrev XB (P : Program) (w : World) (K : PySem.W.Frag) (mg : Str → Option Value) (base : Heap) (c fa : Addr) (A : Around) (outer : List Env) (s : Shared) (H : Hp) (E : XK) : Cx := (cxOf CX0 P w K mg base nm_law_book_right "_law_book_right" (defScope st_law_book_right) fa (.ref c) A outer s H E).nox
theorem refD {fa : Addr} {A : Around} {outer : List Env} {s : Shared} {H0 : Hp} {E : XK} {σ : L2.St} (fD : ∀ B, Ext base B → MakX P w K mg B 5 "Book" cBo (sp_Book_bad cBo cHa)) {Hm7 : Hp} {B' : Heap} (ext : Ext base B') (ok : (XB P w K mg base c fa A outer s H0 E).Ok) (L : Lent (XB P w K mg base c fa A outer s H0 E) σ B') {d : Th} {f : Addr} {v : V} (hb : handB d = false) (hv : At Hm7 d v) :
    ∀ mk ∈ [mkn_law_book_right_0 s.heap.objs.size], LamIs Hm7 f mk → Refuses P w K mg B' 10 Hm7 f v cHa := by
  intro mk hmk hl
  simp only [List.mem_cons, List.not_mem_nil, or_false] at hmk
  rcases hmk with rfl
  · exact hl.refuses (fun c' => act_law_book_right_0 (cells0 ok L scl_law_book_right_0) (fD B' ext)) fun H' Q E k' e => ⟨v, rfl, d, hv.k k', hb, e⟩
theorem refP {fa : Addr} {A : Around} {outer : List Env} {s : Shared} {H0 : Hp} {E : XK} {σ : L2.St} {x dx kn : Addr} {g : Int} {ts : List Addr} {ws : List Wd} (hx : σ[1]? = some (some (.ref x))) (fA : ∀ B, Ext base B → MetX P w K mg B 5 cBo "answer" (sp_answerT cPe cHo cWd)) (fS : ∀ B, Ext base B → MetX P w K mg B 5 cBo "says" (sp_saysT cPe cHo)) {Hm7 : Hp} (B : BookAt Hm7 cBo x dx kn g ts ws) {B' : Heap} (ext : Ext base B') (ok : (XB P w K mg base c fa A outer s H0 E).Ok) (L : Lent (XB P w K mg base c fa A outer s H0 E) σ B') {d : Th} {f : Addr} {v : V} (hb : personB d = false) (hv : At Hm7 d v) :
    ∀ mk ∈ [mkn_law_book_right_1 s.heap.objs.size, mkn_law_book_right_2 s.heap.objs.size], LamIs Hm7 f mk → Refuses P w K mg B' 10 Hm7 f v cPe := by
  intro mk hmk hl
  simp only [List.mem_cons, List.not_mem_nil, or_false] at hmk
  rcases hmk with rfl | rfl
  · exact hl.refuses (fun c' => act_law_book_right_1 (x := x) (cells1 1 ok L scl_law_book_right_1 (show (defScope st_law_book_right).names.lookup ("_law_book" : Str) = some NameKind.cell by decide +kernel) rfl hx) (fA B' ext)) fun H' Q E k' e => ⟨v, rfl, dx, kn, g, ts, ws, d, B.k k', hv.k k', hb, e⟩
  · exact hl.refuses (fun c' => act_law_book_right_2 (x := x) (cells1 1 ok L scl_law_book_right_2 (show (defScope st_law_book_right).names.lookup ("_law_book" : Str) = some NameKind.cell by decide +kernel) rfl hx) (fS B' ext)) fun H' Q E k' e => ⟨v, rfl, dx, kn, g, ts, ws, d, B.k k', hv.k k', hb, e⟩
theorem refH {fa : Addr} {A : Around} {outer : List Env} {s : Shared} {H0 : Hp} {E : XK} {σ : L2.St} {x dx kn : Addr} {g : Int} {ts : List Addr} {ws : List Wd} (hx : σ[1]? = some (some (.ref x))) (fA : ∀ B, Ext base B → MetX P w K mg B 5 cBo "answer" (sp_answerT cPe cHo cWd)) (fS : ∀ B, Ext base B → MetX P w K mg B 5 cBo "says" (sp_saysT cPe cHo)) {Hm7 : Hp} (B : BookAt Hm7 cBo x dx kn g ts ws) {B' : Heap} (ext : Ext base B') (ok : (XB P w K mg base c fa A outer s H0 E).Ok) (L : Lent (XB P w K mg base c fa A outer s H0 E) σ B') {d : Th} {f : Addr} {v : V} (hb : hourB d = false) (hv : At Hm7 d v) :
    ∀ mk ∈ [mkn_law_book_right_3 s.heap.objs.size, mkn_law_book_right_4 s.heap.objs.size], LamIs Hm7 f mk → Refuses P w K mg B' 10 Hm7 f v cHo := by
  intro mk hmk hl
  simp only [List.mem_cons, List.not_mem_nil, or_false] at hmk
  rcases hmk with rfl | rfl
  · exact hl.refuses (fun c' => act_law_book_right_3 (x := x) (cells1 1 ok L scl_law_book_right_3 (show (defScope st_law_book_right).names.lookup ("_law_book" : Str) = some NameKind.cell by decide +kernel) rfl hx) (fA B' ext)) fun H' Q E k' e => ⟨v, rfl, dx, kn, g, ts, ws, d, B.k k', hv.k k', hb, e⟩
  · exact hl.refuses (fun c' => act_law_book_right_4 (x := x) (cells1 1 ok L scl_law_book_right_4 (show (defScope st_law_book_right).names.lookup ("_law_book" : Str) = some NameKind.cell by decide +kernel) rfl hx) (fS B' ext)) fun H' Q E k' e => ⟨v, rfl, dx, kn, g, ts, ws, d, B.k k', hv.k k', hb, e⟩
theorem refA5 {fa : Addr} {A : Around} {outer : List Env} {s : Shared} {H0 : Hp} {E : XK} {σ : L2.St} {x dx kn : Addr} {g : Int} {ts : List Addr} {ws : List Wd} (hx : σ[1]? = some (some (.ref x))) (fA : ∀ B, Ext base B → MetX P w K mg B 5 cBo "answer" (sp_answerT cPe cHo cWd)) {Hm7 : Hp} (B : BookAt Hm7 cBo x dx kn g ts ws) {B' : Heap} (ext : Ext base B') (ok : (XB P w K mg base c fa A outer s H0 E).Ok) (L : Lent (XB P w K mg base c fa A outer s H0 E) σ B') {d : Th} {f : Addr} {v : V} (hb : ansB d = false) (hv : At Hm7 d v) :
    ∀ mk ∈ [mkn_law_book_right_5 s.heap.objs.size], LamIs Hm7 f mk → Refuses P w K mg B' 10 Hm7 f v cWd := by
  intro mk hmk hl
  simp only [List.mem_cons, List.not_mem_nil, or_false] at hmk
  rcases hmk with rfl
  · exact hl.refuses (fun c' => act_law_book_right_5 (x := x) (cells1 1 ok L scl_law_book_right_5 (show (defScope st_law_book_right).names.lookup ("_law_book" : Str) = some NameKind.cell by decide +kernel) rfl hx) (fA B' ext)) fun H' Q E k' e => ⟨v, rfl, dx, kn, g, ts, ws, d, B.k k', hv.k k', hb, e⟩
theorem refA7 {fa : Addr} {A : Around} {outer : List Env} {s : Shared} {H0 : Hp} {E : XK} {σ : L2.St} {x dx kn : Addr} {g : Int} {ts : List Addr} {ws : List Wd} (hx : σ[1]? = some (some (.ref x))) (fA : ∀ B, Ext base B → MetX P w K mg B 5 cBo "answer" (sp_answerT cPe cHo cWd)) {Hm7 : Hp} (B : BookAt Hm7 cBo x dx kn g ts ws) {B' : Heap} (ext : Ext base B') (ok : (XB P w K mg base c fa A outer s H0 E).Ok) (L : Lent (XB P w K mg base c fa A outer s H0 E) σ B') {d : Th} {f : Addr} {v : V} (hb : ansB d = false) (hv : At Hm7 d v) :
    ∀ mk ∈ [mkn_law_book_right_7 s.heap.objs.size], LamIs Hm7 f mk → Refuses P w K mg B' 10 Hm7 f v cWd := by
  intro mk hmk hl
  simp only [List.mem_cons, List.not_mem_nil, or_false] at hmk
  rcases hmk with rfl
  · exact hl.refuses (fun c' => act_law_book_right_7 (x := x) (cells1 1 ok L scl_law_book_right_7 (show (defScope st_law_book_right).names.lookup ("_law_book" : Str) = some NameKind.cell by decide +kernel) rfl hx) (fA B' ext)) fun H' Q E k' e => ⟨v, rfl, dx, kn, g, ts, ws, d, B.k k', hv.k k', hb, e⟩
theorem refF6 {fa : Addr} {A : Around} {outer : List Env} {s : Shared} {H0 : Hp} {E : XK} {σ : L2.St} {x dx kn : Addr} {g : Int} {ts : List Addr} {ws : List Wd} (hx : σ[1]? = some (some (.ref x))) (l80 : ws.length ≤ 80) (full : ¬ (nextC ws ≤ 99 ∧ ws.length < 80)) (fF : ∀ B, Ext base B → MetX P w K mg B 5 cBo "answer" (sp_answer K cBo cT)) {Hm7 : Hp} (B : BookAt Hm7 cBo x dx kn g ts ws) {B' : Heap} (ext : Ext base B') (ok : (XB P w K mg base c fa A outer s H0 E).Ok) (L : Lent (XB P w K mg base c fa A outer s H0 E) σ B') {d : Th} {f : Addr} {v : V} (hb : ∃ a, d = .str a ∧ a ∈ ansL) (hv : At Hm7 d v) :
    ∀ mk ∈ [mkn_law_book_right_6 s.heap.objs.size], LamIs Hm7 f mk → Refuses P w K mg B' 10 Hm7 f v cT := by
  intro mk hmk hl
  rw [List.mem_singleton.mp hmk] at hl
  obtain ⟨a, rfl, ha⟩ := hb
  obtain rfl : v = .str a := hv
  exact hl.refuses (fun c' => act_law_book_right_6 (x := x) (cells1 1 ok L scl_law_book_right_6 (show (defScope st_law_book_right).names.lookup ("_law_book" : Str) = some NameKind.cell by decide +kernel) rfl hx) (fF B' ext)) fun H' Q E k' e => ⟨_, rfl, dx, kn, g, ts, ws, a, rfl, B.k k', ha, l80, full, e⟩
theorem refF8 {fa : Addr} {A : Around} {outer : List Env} {s : Shared} {H0 : Hp} {E : XK} {σ : L2.St} {x dx kn : Addr} {g : Int} {ts : List Addr} {ws : List Wd} (hx : σ[6]? = some (some (.ref x))) (l80 : ws.length ≤ 80) (full : ¬ (nextC ws ≤ 99 ∧ ws.length < 80)) (fF : ∀ B, Ext base B → MetX P w K mg B 5 cBo "answer" (sp_answer K cBo cT)) {Hm7 : Hp} (B : BookAt Hm7 cBo x dx kn g ts ws) {B' : Heap} (ext : Ext base B') (ok : (XB P w K mg base c fa A outer s H0 E).Ok) (L : Lent (XB P w K mg base c fa A outer s H0 E) σ B') {d : Th} {f : Addr} {v : V} (hb : ∃ a, d = .str a ∧ a ∈ ansL) (hv : At Hm7 d v) :
    ∀ mk ∈ [mkn_law_book_right_8 s.heap.objs.size], LamIs Hm7 f mk → Refuses P w K mg B' 10 Hm7 f v cT := by
  intro mk hmk hl
  rw [List.mem_singleton.mp hmk] at hl
  obtain ⟨a, rfl, ha⟩ := hb
  obtain rfl : v = .str a := hv
  exact hl.refuses (fun c' => act_law_book_right_8 (x := x) (cells1 6 ok L scl_law_book_right_8 (show (defScope st_law_book_right).names.lookup ("_law_far" : Str) = some NameKind.cell by decide +kernel) rfl hx) (fF B' ext)) fun H' Q E k' e => ⟨_, rfl, dx, kn, g, ts, ws, a, rfl, B.k k', ha, l80, full, e⟩
theorem ma_nums {S : List Addr} {Γ : List (V × Th)} {σ : L2.St} {m : Int} (h0 : σ[0]? = some (some (.int m))) : Ma S Γ (tCall sp_no_numbers [] C8.E0 (tCons (tVar 0) tNil)) σ (.lst (numsD m)) := fun H Q _ hS q => ⟨_, h0, S, m, rfl, hS, q⟩
/-- no number from 0 to hi -/
theorem nums_no {m hi a : Int} {f : Th → Bool} (hf : ∀ d, f d = numB d 0 hi) (h : 0 ≤ m) (l : hi < a) : ∀ d ∈ numsD m ++ [.int a, .int (a + m)], f d = false := fun d hd => by
  rw [hf]
  rcases List.mem_append.mp hd with hd | hd
  · exact noN_nums h d hd 0 hi (by decide)
  · simp only [List.mem_cons, List.not_mem_nil, or_false] at hd
    rcases hd with rfl | rfl
    · exact decide_eq_false fun z => by omega
    · exact decide_eq_false fun z => by omega
/-- a book that was made since -/
structure Bs (cBo : Addr) (H0 H : Hp) (x : Addr) (g : Int) (ws : List Wd) : Prop where
  ex : ∃ (dx kn : Addr) (ts : List Addr), BookAt H cBo x dx kn g ts ws ∧ H0 kn = none
  k : Kx H0 H
  nx : H0 x = none
theorem Bs.kx {H0 H H' : Hp} {x : Addr} {g : Int} {ws : List Wd} (b : Bs cBo H0 H x g ws) (k : Kx H H') : Bs cBo H0 H' x g ws := by
  obtain ⟨dx, kn, ts, B, n⟩ := b.ex
  exact ⟨⟨dx, kn, ts, B.k k, n⟩, b.k.trans k, b.nx⟩
theorem asg_book {q : Str} {Hm : Hp} {ps : Array Value} {σ : L2.St} {D : Ends} {rest : TS} {j : Nat} {g : Int} (T : Tb Hm P1 ps q) (g0 : 0 ≤ g) (g3 : g ≤ 3) (h : ∀ (x : Addr) (Hm' : Hp), Kx Hm Hm' → Tb Hm' P1 ps q → Bs cBo Hm Hm' x g [] → rest D (σ.set j (some (.ref x))) (ov Hm' [(P1, ps)])) :
    tSeq (tAsg (tMake cBo (sp_Book_initN K cBo) [] C8.E0 (tCons (tC (.int g)) tNil)) (gName j)) rest D σ (ov Hm [(P1, ps)]) := by
  refine fun x dx nx ndx nxx => ⟨_, x, dx, g, rfl, g0, g3, rfl, nx, ndx, nxx, fun H2 kn n2 nkn nkx B => ⟨rfl, ?_⟩⟩
  obtain ⟨Hm2, rfl, T2, n2', s2⟩ := nw_back T n2
  exact h x Hm2 n2'.kx T2 ⟨⟨dx, kn, [], B.sub s2, (ov_none nkn).1⟩, n2'.kx, (ov_none nx).1⟩
theorem asg_words {q : Str} {Hm H0 : Hp} {ps : Array Value} {σ : L2.St} {D : Ends} {rest : TS} {i j : Nat} {x : Addr} {g : Int} {ws : List Wd} (hx : σ[j]? = some (some (.ref x))) (T : Tb Hm P1 ps q) (b : Bs cBo H0 Hm x g ws) (h : ∀ (r : Addr) (ts : List Addr) (Hm' : Hp), Kx Hm Hm' → Tb Hm' P1 ps q → Hm' r = some (.lst (ts.map V.ref)) → TAt Hm' ts ws → rest D (σ.set i (some (.ref r))) (ov Hm' [(P1, ps)])) :
    tSeq (tAsg (tMeth cBo "all_words" (sp_all_wordsN K cBo) [] C8.E0 (tVar j) tNil) (gName i)) rest D σ (ov Hm [(P1, ps)]) := by
  obtain ⟨dx, kn, ts, B, n⟩ := b.ex
  refine ⟨_, hx, x, dx, _, rfl, T.rd B.ob, rfl, x, dx, kn, g, ts, ws, rfl, B.sub T.sub, fun H' r n' nr hr => ?_⟩
  obtain ⟨Hm2, rfl, T2, n2, s2⟩ := nw_back T n'
  exact h r ts Hm2 n2.kx T2 (s2 _ _ hr fun ps z => (by cases z)) (B.ws.k n2.kx)
/-- behind an answer put in; behind words heard -/
theorem ans_post {q : Str} {Hm H0 H' : Hp} {ps : Array Value} {x dx kn t : Addr} {g : Int} {ts : List Addr} {ws : List Wd} {w : Wd} (T : Tb Hm P1 ps q) (b : Bs cBo H0 Hm x g ws) (n : H0 kn = none) (B : BookAt Hm cBo x dx kn g ts ws) (ke : Ke [kn] Hm H') (B1 : BookAt H' cBo x dx kn g (ts ++ [t]) (ws ++ [w])) (oo : OvOk H' [(P1, ps)]) : Tb H' P1 ps q ∧ Bs cBo H0 H' x g (ws ++ [w]) :=
  ⟨⟨oo.at1, T.l.ke1 ke B.kn fun c => lst_codeO⟩, ⟨⟨dx, kn, _, B1, n⟩, Ke.kx b.k ke fun y hy => by rw [List.mem_singleton.mp hy]; exact n, b.nx⟩⟩
theorem hear_post {q : Str} {Hm H0 H' : Hp} {ps : Array Value} {x dx kn r : Addr} {g : Int} {ts ts' : List Addr} {ws ds : List Wd} (T : Tb Hm P1 ps q) (b : Bs cBo H0 Hm x g ws) (B : BookAt Hm cBo x dx kn g ts ws) (nr : Hm r = none) (ke : Ke [x] Hm H') (B2 : BookAt H' cBo x dx r g ts' ds) (oo : OvOk H' [(P1, ps)]) : Tb H' P1 ps q ∧ Bs cBo H0 H' x g ds :=
  ⟨⟨oo.at1, T.l.ke1 ke B.ob fun c => codeO_ins⟩, ⟨⟨dx, r, ts', B2, b.k.f _ nr⟩, Ke.kx b.k ke fun y hy => by rw [List.mem_singleton.mp hy]; exact b.nx, b.nx⟩⟩
def w2 : List Wd := [⟨1, 2, 7, 11, "yes"⟩, ⟨2, 2, 0, 0, "maybe"⟩]
theorem w2_ok : ∀ x ∈ w2, x.ok := by decide +kernel
def kW78 (j : Nat) : Wd := ⟨1 + (0 + (j : Int)), 0, (0 + (j : Int)) % 8, (0 + (j : Int)) % 12, "no"⟩
def k78 : List Wd := (List.range 78).map kW78
theorem k78_len : k78.length = 78 := by
  unfold k78
  rw [List.length_map, List.length_range]
theorem k78_ok : ∀ x ∈ k78, x.ok := by decide +kernel
theorem k80_df : Diff (w2 ++ k78) := by
  unfold Diff
  decide +kernel
/-- a book's words told: as many, these -/
theorem c2_words {q : Str} {Hm6 H0 H1 : Hp} {σ : L2.St} {j i : Nat} {x r : Addr} {g : Int} {ts : List Addr} {ws : List Wd} (hx : σ[j]? = some (some (.ref x))) (hi : σ[i]? = some (some (.ref r))) (b : Bs cBo H0 Hm6 x g ws) (hr : Hm6 r = some (.lst (ts.map V.ref))) (ht : TAt Hm6 ts ws) (ok : ∀ x ∈ ws, x.ok) (h : StT P1 q Hm6 H1) (Q2 : Bool → Hp → Prop) (q2 : ∀ H2, StT P1 q Hm6 H2 → Q2 false H2) :
    tTest (tOp (rNeD K) (tMeth cBo "all_words" (sp_all_wordsN K cBo) [] C8.E0 (tVar j) tNil) (tVar i)) σ H1 Q2 := by
  obtain ⟨Hm9, ps9, rfl, T9, k9⟩ := h
  obtain ⟨dx, kn, us, B, n⟩ := b.ex
  have B9 := B.k k9
  refine ⟨_, hx, x, dx, _, rfl, T9.rd B9.ob, rfl, x, dx, kn, g, us, ws, rfl, B9.sub T9.sub, fun H' r' n' nr' hr' => ?_⟩
  obtain ⟨Hm10, rfl, T10, n10, s10⟩ := nw_back T9 n'
  have hr10 := s10 _ _ hr' fun ps z => (by cases z)
  have k10 := k9.trans n10.kx
  have e1 : TAt (ov Hm10 [(P1, ps9)]) us ws := ((BookAt.sub T10.sub (B9.k n10.kx))).ws
  have e2 : TAt (ov Hm10 [(P1, ps9)]) ts ws := paired_imp (fun _ _ z => T10.rd z) (ht.k k10)
  refine ⟨_, hi, wsD ws, wsD ws, wsD_dp ⟨us, sq_of (T10.rd hr10), e1.w⟩, wsD_dp ⟨ts, sq_of (T10.rd (k10.lst hr)), e2.w⟩, wsD_sh ok, wsD_sh ok, _, rfl, ?_⟩
  rw [wsD_eqv, decide_eq_true rfl]
  exact q2 _ ⟨Hm10, ps9, rfl, T10, k10⟩
theorem c2_len {q : Str} {Hm6 H0 H1 : Hp} {σ : L2.St} {j : Nat} {x : Addr} {g : Int} {ws : List Wd} (hx : σ[j]? = some (some (.ref x))) (b : Bs cBo H0 Hm6 x g ws) (l : ws.length = 80) (h : StT P1 q Hm6 H1) (Q2 : Bool → Hp → Prop) (q2 : ∀ H2, StT P1 q Hm6 H2 → Q2 false H2) :
    tTest (tOp rNe (tCB (rLenK K) (tCons (tMeth cBo "all_words" (sp_all_wordsN K cBo) [] C8.E0 (tVar j) tNil) tNil)) (tC (.int 80))) σ H1 Q2 := by
  obtain ⟨Hm9, ps9, rfl, T9, k9⟩ := h
  obtain ⟨dx, kn, us, B, n⟩ := b.ex
  have B9 := B.k k9
  refine ⟨_, hx, x, dx, _, rfl, T9.rd B9.ob, rfl, x, dx, kn, g, us, ws, rfl, B9.sub T9.sub, fun H' r' n' nr' hr' => ?_⟩
  obtain ⟨Hm10, rfl, T10, n10, s10⟩ := nw_back T9 n'
  have lu := paired_len B.ws
  refine ⟨r', _, rfl, .inl (sq_of hr'), rfl, _, rfl, ?_⟩
  rw [eqI (show (((us.map V.ref).length : Nat) : Int) = 80 by rw [List.length_map, lu, l] <;> rfl)]
  exact q2 _ ⟨Hm10, ps9, rfl, T10, k9.trans n10.kx⟩
def w99 : Wd := ⟨99, 3, 0, 0, "no"⟩
theorem strs_yes : ∀ d ∈ [Th.str "yes", .str "no"], ∃ a, d = .str a ∧ a ∈ ansL := fun d hd => by
  simp only [List.mem_cons, List.not_mem_nil, or_false] at hd
  rcases hd with rfl | rfl
  · exact ⟨_, rfl, by decide⟩
  · exact ⟨_, rfl, by decide⟩
def sp_books (P1 : Addr) : Sp := fun vs H Q _ => ∃ (m : Int) (Hm : Hp) (ps : Array Value), vs = [.int m] ∧ 0 ≤ m ∧ H = ov Hm [(P1, ps)] ∧ Tb Hm P1 ps (qlam "_law_book_right") ∧ ∀ (Hm' : Hp) (ps' : Array Value), Kx Hm Hm' → Tb Hm' P1 ps' (qlam "_law_book_right") → Q (.bl true) (ov Hm' [(P1, ps')])
theorem ok_law_book_right (D : DefT K mg "_law_book_right" st_law_book_right c) (T : Tx K mg aA) (TB : TabB base mg c P1) (f__law_no_numbers : C8.Cal P w K mg base 1 "_law_no_numbers" sp_no_numbers []) (k_Book : C8.Mak P w K mg base 5 "Book" cBo (sp_Book_initN K cBo) []) (m_Book_all_words : C8.Met P w K mg base 1 cBo "all_words" (sp_all_wordsN K cBo) [])
    (m_Book_answer : ∀ B, Ext base B → C8.Met P w K mg B 5 cBo "answer" (sp_answer0 K cBo) []) (m_Book_hear : ∀ B, Ext base B → C8.Met P w K mg B 8 cBo "hear" (sp_hear0 K cBo) []) (fA : ∀ B, Ext base B → MetX P w K mg B 5 cBo "answer" (sp_answerT cPe cHo cWd)) (fS : ∀ B, Ext base B → MetX P w K mg B 5 cBo "says" (sp_saysT cPe cHo))
    (fD : ∀ B, Ext base B → MakX P w K mg B 5 "Book" cBo (sp_Book_bad cBo cHa)) (fF : ∀ B, Ext base B → MetX P w K mg B 5 cBo "answer" (sp_answer K cBo cT)) (h3 : cs[3]? = some cHa) (h4 : cs[4]? = some cPe) (h5 : cs[5]? = some cHo) (h6 : cs[6]? = some cWd) (h8 : cs[8]? = some cT)
    (f__law_each : ∀ B, Ext base B → C8.Cal P w K mg B 12 "_law_each" (sp_each P w K mg cs B) []) : C8.Cal P w K mg base 13 "_law_book_right" (sp_books P1) [] := by
  refine cal_of D sc_law_book_right (fun _ _ _ _ _ _ us hl => match us, hl with | [_], _ => rfl) (fun vs H Q E h => ?_) (fun fa A outer s H vs Q E hr h => ?_)
  · obtain ⟨m, Hm, ps, rfl, _⟩ := h
    rfl
  obtain ⟨m, Hm, ps, rfl, m0, rfl, Tt, q⟩ := h
  have nd := sc_law_book_right.nd
  have TL : LamX.TabB base mg c P1 := ⟨TB.code, TB.bm, TB.gP⟩
  have hcode : (cxOf CX0 P w K mg base nm_law_book_right "_law_book_right" (defScope st_law_book_right) fa (.ref c) A outer s (ov Hm [(P1, ps)]) E).nox.env.code = .ref c := rfl
  refine ⟨_, (pss_cons (ps_if (pt_not (pt_val (pe_lend f__law_each (fun _ => rfl) rfl rfl hr (by decide) (by rfl) (pa_cons (pe_lst (pa_cons (pe_lam (q := qlam "_law_book_right") TL hcode rfl rfl lfr_law_book_right_0) pa_nil)) (pa_cons (pe_op op_cat (C8.pe_c f__law_no_numbers hr (by first | decide | exact hkp) (by rfl) (pa_cons (pv 0) pa_nil)) (pe_lst (pa_cons pe_int (pa_cons (pe_op op_add pe_int (pv 0)) pa_nil)))) (pa_cons pe_int pa_nil)))))) (pss_one (ps_ret pe_bl)) pss_nil)
      (pss_cons (ps_set (i := 1) nd rfl (Or.inr rfl) (C8.pe_mk k_Book hr (by first | decide | exact hkp) (by rfl) (pa_cons pe_int pa_nil)))
      (pss_cons (ps_if (pt_cmpR (op_neD hr.units) (pe_lst (pa_cons (pe_lendM m_Book_answer (fun _ => rfl) rfl rfl hr (by decide) (pv 1) (pa_cons pe_int (pa_cons pe_int (pa_cons pe_str pa_nil)))) (pa_cons (pe_lendM m_Book_answer (fun _ => rfl) rfl rfl hr (by decide) (pv 1) (pa_cons pe_int (pa_cons pe_int (pa_cons pe_str pa_nil)))) pa_nil))) (pe_lst (pa_cons pe_int (pa_cons pe_int pa_nil))) (nomark _)) (pss_one (ps_ret pe_bl)) pss_nil)
      (pss_cons (ps_set (i := 2) nd rfl (Or.inl rfl) (C8.pe_mt0 m_Book_all_words hr (by first | decide | exact hkp) (pv 1)))
      (pss_cons (ps_set (i := 3) nd rfl (Or.inl rfl) (pe_lst (pa_cons (pe_lam (q := qlam "_law_book_right") TL hcode rfl rfl lfr_law_book_right_1) (pa_cons (pe_lam (q := qlam "_law_book_right") TL hcode rfl rfl lfr_law_book_right_2) pa_nil))))
      (pss_cons (ps_if (pt_not (pt_val (pe_lend f__law_each (fun _ => rfl) rfl rfl hr (by decide) (by rfl) (pa_cons (pv 3) (pa_cons (pe_op op_cat (C8.pe_c f__law_no_numbers hr (by first | decide | exact hkp) (by rfl) (pa_cons (pv 0) pa_nil)) (pe_lst (pa_cons pe_int (pa_cons (pe_op op_add pe_int (pv 0)) pa_nil)))) (pa_cons pe_int pa_nil)))))) (pss_one (ps_ret pe_bl)) pss_nil)
      (pss_cons (ps_set (i := 3) nd rfl (Or.inl rfl) (pe_lst (pa_cons (pe_lam (q := qlam "_law_book_right") TL hcode rfl rfl lfr_law_book_right_3) (pa_cons (pe_lam (q := qlam "_law_book_right") TL hcode rfl rfl lfr_law_book_right_4) pa_nil))))
      (pss_cons (ps_if (pt_not (pt_val (pe_lend f__law_each (fun _ => rfl) rfl rfl hr (by decide) (by rfl) (pa_cons (pv 3) (pa_cons (pe_op op_cat (C8.pe_c f__law_no_numbers hr (by first | decide | exact hkp) (by rfl) (pa_cons (pv 0) pa_nil)) (pe_lst (pa_cons pe_int (pa_cons (pe_op op_add pe_int (pv 0)) pa_nil)))) (pa_cons pe_int pa_nil)))))) (pss_one (ps_ret pe_bl)) pss_nil)
      (pss_cons (ps_set (i := 4) nd rfl (Or.inl rfl) (pe_lst (pa_cons pe_non (pa_cons pe_int (pa_cons pe_bl (pa_cons pe_str (pa_cons pe_str (pa_cons pe_str (pa_cons pe_str (pa_cons (pe_lst (pa_cons pe_str pa_nil)) (pa_cons (pe_tup (pa_cons pe_str pa_nil)) (pa_cons pe_dnewK (pa_cons pe_str pa_nil)))))))))))))
      (pss_cons (ps_if (PW.pt (pw_or (pt_not (pt_val (pe_lend f__law_each (fun _ => rfl) rfl rfl hr (by decide) (by rfl) (pa_cons (pe_lst (pa_cons (pe_lam (q := qlam "_law_book_right") TL hcode rfl rfl lfr_law_book_right_5) pa_nil)) (pa_cons (pv 4) (pa_cons pe_int pa_nil)))))) (pw_or1 (pt_cmpR (op_neD hr.units) (C8.pe_mt0 m_Book_all_words hr (by first | decide | exact hkp) (pv 1)) (pv 2) (nomark _))))) (pss_one (ps_ret pe_bl)) pss_nil)
      (pss_cons (ps_if (pt_cmpR op_ne (pe_lendM m_Book_hear (fun _ => rfl) rfl rfl hr (by decide) (pv 1) (pa_cons (pe_lc (own := [("_law_at", 5)]) (g := gName 5) (tt := tYes) (by rfl) nd (pi_range1 (by rfl) T.z_range (pa_cons pe_int pa_nil)) (blkOk_by (own := [("_law_at", 5)]) (N := nm_law_book_right) (sc := defScope st_law_book_right) (by decide +kernel)) (fun _ _ _ _ _ => pg_name (i := 5) nd rfl (Or.inl rfl)) (fun _ _ _ _ _ => pts_nil) (fun _ _ _ _ _ => (pe_tup (pa_cons (pe_op op_add pe_int (pv 5)) (pa_cons pe_int (pa_cons (pe_op op_mod (pv 5) pe_int) (pa_cons (pe_op op_mod (pv 5) pe_int) (pa_cons pe_str pa_nil)))))))) pa_nil)) pe_int (nomark _)) (pss_one (ps_ret pe_bl)) pss_nil)
      (pss_cons (ps_if (PW.pt (pw_or (pt_not (pt_val (pe_lend f__law_each (fun _ => rfl) rfl rfl hr (by decide) (by rfl) (pa_cons (pe_lst (pa_cons (pe_lam (q := qlam "_law_book_right") TL hcode rfl rfl lfr_law_book_right_6) pa_nil)) (pa_cons (pe_lst (pa_cons pe_str (pa_cons pe_str pa_nil))) (pa_cons pe_int pa_nil)))))) (pw_or1 (pt_cmpR op_ne (pe_callB call_len_seq (by rfl) T.z_len PySem.boot_len (pa_cons (C8.pe_mt0 m_Book_all_words hr (by first | decide | exact hkp) (pv 1)) pa_nil)) pe_int (nomark _))))) (pss_one (ps_ret pe_bl)) pss_nil)
      (pss_cons (ps_if (pt_not (pt_val (pe_lend f__law_each (fun _ => rfl) rfl rfl hr (by decide) (by rfl) (pa_cons (pe_lst (pa_cons (pe_lam (q := qlam "_law_book_right") TL hcode rfl rfl lfr_law_book_right_7) pa_nil)) (pa_cons (pe_lst (pa_cons pe_str pa_nil)) (pa_cons pe_int pa_nil)))))) (pss_one (ps_ret pe_bl)) pss_nil)
      (pss_cons (ps_set (i := 6) nd rfl (Or.inr rfl) (C8.pe_mk k_Book hr (by first | decide | exact hkp) (by rfl) (pa_cons pe_int pa_nil)))
      (pss_cons (ps_if (PW.pt (pw_or (pt_cmpR op_ne (pe_lendM m_Book_hear (fun _ => rfl) rfl rfl hr (by decide) (pv 6) (pa_cons (pe_lst (pa_cons (pe_tup (pa_cons pe_int (pa_cons pe_int (pa_cons pe_int (pa_cons pe_int (pa_cons pe_str pa_nil)))))) pa_nil)) pa_nil)) pe_int (nomark _)) (pw_or1 (pt_not (pt_val (pe_lend f__law_each (fun _ => rfl) rfl rfl hr (by decide) (by rfl) (pa_cons (pe_lst (pa_cons (pe_lam (q := qlam "_law_book_right") TL hcode rfl rfl lfr_law_book_right_8) pa_nil)) (pa_cons (pe_lst (pa_cons pe_str pa_nil)) (pa_cons pe_int pa_nil))))))))) (pss_one (ps_ret pe_bl)) pss_nil)
      (pss_one (ps_ret (pe_cmpR (op_eqD hr.units) (C8.pe_mt0 m_Book_all_words hr (by first | decide | exact hkp) (pv 6)) (pe_lst (pa_cons (pe_tup (pa_cons pe_int (pa_cons pe_int (pa_cons pe_int (pa_cons pe_int (pa_cons pe_str pa_nil)))))) pa_nil)) (nomark _))))))))))))))))))), ?_⟩
  have q0 : numB = numB := rfl
  refine if_no (A := StT P1 (qlam "_law_book_right") Hm) (each_cps (i := 3) (A := fun d => handB d = false) h3 (getL_lst (mks := [mkn_law_book_right_0 s.heap.objs.size]) (mal_cons (mko_law_book_right_0 s.heap.objs.size) mal_nil) (by exact Nat.le_of_ble_eq_true rfl) Tt) (fun Hm2 ps2 k2 T2 => getT_ma (Γ := []) (ds := numsD m ++ [.int 4, .int (4 + m)]) (mk_cat (ma_nums rfl) (by repeat' (first | exact mks_nil | apply mks_cons | exact mk_non | exact mk_bl | exact mk_int | exact mk_str | exact mk_neg | exact mk_dct | exact mk_varI rfl | exact mk_var rfl List.mem_cons_self | exact mk_var rfl (List.mem_cons_of_mem _ List.mem_cons_self) | exact mk_var rfl (List.mem_cons_of_mem _ (List.mem_cons_of_mem _ List.mem_cons_self)) | apply mk_tup | apply mk_lst | apply mk_add | apply mk_sub | apply mk_rep | apply mk_list | apply mk_take | apply mk_catT | apply mk_cat | exact Nat.le_of_ble_eq_true rfl | exact List.cons_ne_nil _ _)) (by exact Nat.le_of_ble_eq_true rfl)) T2 gamA0 (by exact Nat.le_of_ble_eq_true rfl) (nums_no (hi := 3) (fun _ => rfl) m0 (by decide)))
    (fun Hm2 k2 B' ext ok L mk hmk d f v hd hl hv => refD fD ext ok L hd hv mk hmk hl)) fun H1 hH1 => ?_
  obtain ⟨Hm1, ps1, rfl, T1, k1⟩ := hH1
  refine asg_book T1 (by decide) (by decide) fun x Hm2 k2 T2 b2 => ?_
  refine if_f (B := fun H2 => ∃ Hm3 : Hp, H2 = ov Hm3 [(P1, ps1)] ∧ Tb Hm3 P1 ps1 (qlam "_law_book_right") ∧ Bs cBo Hm1 Hm3 x 2 w2) (fun Q2 q2 => ?_) fun H3 hH3 => ?_
  · obtain ⟨dx, kn, ts, B, nk⟩ := b2.ex
    refine ⟨_, rfl, x, dx, _, rfl, T2.rd B.ob, rfl, Hm2, _, rfl, T2.o, fun B' ext ok L => ⟨x, dx, kn, 2, 7, 11, "yes", ts, [], rfl, B, by decide, by decide, by decide, by decide, by decide, by decide, by decide, fun Hm3 t3 ke3 _ B3 oo3 => ?_⟩⟩
    obtain ⟨T3, b3⟩ := ans_post T2 b2 nk B ke3 B3 oo3
    refine ⟨_, rfl, x, dx, _, rfl, T3.rd B3.ob, rfl, Hm3, _, rfl, T3.o, fun B' ext ok L => ⟨x, dx, kn, 2, 0, 0, "maybe", _, _, rfl, B3, by decide, by decide, by decide, by decide, by decide, by decide, by decide, fun Hm4 t4 ke4 _ B4 oo4 => ?_⟩⟩
    obtain ⟨T4, b4⟩ := ans_post T3 b3 nk B3 ke4 B4 oo4
    refine ⟨(by show 2 ≤ sizeLine; decide), fun l1 nl1 => ?_⟩
    obtain ⟨n5, e5, T5⟩ := T4.new (u := .lst (([1, 2] : List Int).map V.int)) nl1
    show tLst _ _ (upd (ov Hm4 [(P1, ps1)]) l1 (.lst (([1, 2] : List Int).map V.int))) _
    rw [e5]
    have k5 := Kx.new (u := .lst (([1, 2] : List Int).map V.int)) n5
    have hl1 : (upd Hm4 l1 (.lst (([1, 2] : List Int).map V.int))) l1 = some (.lst (([1, 2] : List Int).map V.int)) := upd_same
    generalize upd Hm4 l1 (.lst (([1, 2] : List Int).map V.int)) = Hm5 at T5 k5 hl1 ⊢
    refine ⟨(by show 2 ≤ sizeLine; decide), fun l2 nl2 => ?_⟩
    obtain ⟨n6, e6, T6⟩ := T5.new (u := .lst (([1, 2] : List Int).map V.int)) nl2
    show rNeD K _ _ (upd (ov Hm5 [(P1, ps1)]) l2 (.lst (([1, 2] : List Int).map V.int))) _
    rw [e6]
    have k6 := Kx.new (u := .lst (([1, 2] : List Int).map V.int)) n6
    have hl2 : (upd Hm5 l2 (.lst (([1, 2] : List Int).map V.int))) l2 = some (.lst (([1, 2] : List Int).map V.int)) := upd_same
    generalize upd Hm5 l2 (.lst (([1, 2] : List Int).map V.int)) = Hm6 at T6 k6 hl2 ⊢
    refine ⟨isD [1, 2], isD [1, 2], isD_dp (sq_of (T6.rd (k6.lst hl1))), isD_dp (sq_of (T6.rd hl2)), isD_sh _, isD_sh _, _, rfl, ?_⟩
    rw [isD_eqv, decide_eq_true rfl]
    exact q2 _ ⟨Hm6, rfl, T6, b4.kx (k5.trans k6)⟩
  obtain ⟨Hm3, rfl, T3, b3⟩ := hH3
  refine asg_words rfl T3 b3 fun r4 ts4 Hm4 k4 T4 hr4 ht4 => ?_
  have b4 := b3.kx k4
  obtain ⟨dx, kn, ts, B, nkn⟩ := id b4.ex
  refine asg_getL (mks := [mkn_law_book_right_1 s.heap.objs.size, mkn_law_book_right_2 s.heap.objs.size]) (fun Q' h => lst_lam (mal_cons (mko_law_book_right_1 s.heap.objs.size) (mal_cons (mko_law_book_right_2 s.heap.objs.size) mal_nil)) (by exact Nat.le_of_ble_eq_true rfl) T4 h) fun p5 fs5 Hm5 ps5 k5 np5 T5 l5 => ?_
  have B5 := B.k k5
  refine if_no (A := StT P1 (qlam "_law_book_right") Hm5) (each_cps (i := 4) (A := fun d => personB d = false) h4 (getL_var rfl T5 l5) (fun Hm5b ps5b k5b T5b => getT_ma (Γ := []) (ds := numsD m ++ [.int 8, .int (8 + m)]) (mk_cat (ma_nums rfl) (by repeat' (first | exact mks_nil | apply mks_cons | exact mk_non | exact mk_bl | exact mk_int | exact mk_str | exact mk_neg | exact mk_dct | exact mk_varI rfl | exact mk_var rfl List.mem_cons_self | exact mk_var rfl (List.mem_cons_of_mem _ List.mem_cons_self) | exact mk_var rfl (List.mem_cons_of_mem _ (List.mem_cons_of_mem _ List.mem_cons_self)) | apply mk_tup | apply mk_lst | apply mk_add | apply mk_sub | apply mk_rep | apply mk_list | apply mk_take | apply mk_catT | apply mk_cat | exact Nat.le_of_ble_eq_true rfl | exact List.cons_ne_nil _ _)) (by exact Nat.le_of_ble_eq_true rfl)) T5b gamA0 (by exact Nat.le_of_ble_eq_true rfl) (nums_no (hi := 7) (fun _ => rfl) m0 (by decide)))
    (fun Hm5c k5c B' ext ok L mk hmk d f v hd hl hv => refP rfl fA fS (B5.k k5c) ext ok L hd hv mk (by grind) hl)) fun H6 hH6 => ?_
  obtain ⟨Hm6, ps6, rfl, T6, k6⟩ := hH6
  have B6 := B5.k k6
  refine asg_getL (mks := [mkn_law_book_right_3 s.heap.objs.size, mkn_law_book_right_4 s.heap.objs.size]) (fun Q' h => lst_lam (mal_cons (mko_law_book_right_3 s.heap.objs.size) (mal_cons (mko_law_book_right_4 s.heap.objs.size) mal_nil)) (by exact Nat.le_of_ble_eq_true rfl) T6 h) fun p7 fs7 Hm7 ps7 k7 np7 T7 l7 => ?_
  have B7 := B6.k k7
  refine if_no (A := StT P1 (qlam "_law_book_right") Hm7) (each_cps (i := 5) (A := fun d => hourB d = false) h5 (getL_var rfl T7 l7) (fun Hm7b ps7b k7b T7b => getT_ma (Γ := []) (ds := numsD m ++ [.int 12, .int (12 + m)]) (mk_cat (ma_nums rfl) (by repeat' (first | exact mks_nil | apply mks_cons | exact mk_non | exact mk_bl | exact mk_int | exact mk_str | exact mk_neg | exact mk_dct | exact mk_varI rfl | exact mk_var rfl List.mem_cons_self | exact mk_var rfl (List.mem_cons_of_mem _ List.mem_cons_self) | exact mk_var rfl (List.mem_cons_of_mem _ (List.mem_cons_of_mem _ List.mem_cons_self)) | apply mk_tup | apply mk_lst | apply mk_add | apply mk_sub | apply mk_rep | apply mk_list | apply mk_take | apply mk_catT | apply mk_cat | exact Nat.le_of_ble_eq_true rfl | exact List.cons_ne_nil _ _)) (by exact Nat.le_of_ble_eq_true rfl)) T7b gamA0 (by exact Nat.le_of_ble_eq_true rfl) (nums_no (hi := 11) (fun _ => rfl) m0 (by decide)))
    (fun Hm7c k7c B' ext ok L mk hmk d f v hd hl hv => refH rfl fA fS (B7.k k7c) ext ok L hd hv mk (by grind) hl)) fun H8 hH8 => ?_
  obtain ⟨Hm8, ps8, rfl, T8, k8⟩ := hH8
  refine asg_ov (Γ := []) (d := .lst [.non, .int 5, .bl true, .str "", .str "Yes", .str "y", .str "maybe ", .lst [.str "yes"], .tup [.str "yes"], .dct, .str "no\n"]) ?_ T8 gamA0 fun vw Hm9 n9 T9 hw => ?_
  · repeat' (first | exact mks_nil | apply mks_cons | exact mk_non | exact mk_bl | exact mk_int | exact mk_str | exact mk_neg | exact mk_dct | exact mk_varI rfl | exact mk_var rfl List.mem_cons_self | exact mk_var rfl (List.mem_cons_of_mem _ List.mem_cons_self) | exact mk_var rfl (List.mem_cons_of_mem _ (List.mem_cons_of_mem _ List.mem_cons_self)) | apply mk_tup | apply mk_lst | apply mk_add | apply mk_sub | apply mk_rep | apply mk_list | apply mk_take | apply mk_catT | apply mk_cat | exact Nat.le_of_ble_eq_true rfl | exact List.cons_ne_nil _ _)
  have k49 := (((k5.trans k6).trans k7).trans k8).trans n9.kx
  have b9 := b4.kx k49
  have B9 := B.k k49
  refine if_or_no (A := StT P1 (qlam "_law_book_right") Hm9) (B := StT P1 (qlam "_law_book_right") Hm9) (each_cps (i := 6) (A := fun d => ansB d = false) h6 (getL_lst (mks := [mkn_law_book_right_5 s.heap.objs.size]) (mal_cons (mko_law_book_right_5 s.heap.objs.size) mal_nil) (by exact Nat.le_of_ble_eq_true rfl) T9) (fun Hm9b ps9b k9b T9b => getT_ma (Γ := [(vw, _)]) (mk_var rfl List.mem_cons_self) T9b (gamA1 (hw.k k9b)) (by exact Nat.le_of_ble_eq_true rfl) (all_no (by decide +kernel)))
    (fun Hm9c k9c B' ext ok L mk hmk d f v hd hl hv => refA5 rfl fA (B9.k k9c) ext ok L hd hv mk (by grind) hl)) (fun H1 hH1 Q2 q2 => c2_words rfl rfl b9 (k49.lst hr4) (ht4.k k49) w2_ok hH1 Q2 q2) fun H10 hH10 => ?_
  obtain ⟨Hm10, ps10, rfl, T10, k10⟩ := hH10
  have b10 := b9.kx k10
  clear B9 B7 B6 B5 B b9 b4 b3 hw l5 l7 hr4 ht4
  have al80 : Alike (w2 ++ k78) := k80_df.alike
  obtain ⟨ds, ho⟩ := once_ex (w2 ++ k78) al80
  have lds : ds.length = 80 := by
    rw [once_len_eq ho (List.Pairwise.imp (fun {a b} z e => z (by rw [e])) k80_df), List.length_append, k78_len] <;> rfl
  refine if_f (B := fun H2 => ∃ Hm11 : Hp, H2 = ov Hm11 [(P1, ps10)] ∧ Tb Hm11 P1 ps10 (qlam "_law_book_right") ∧ Bs cBo Hm1 Hm11 x 2 ds) (fun Q2 q2 => ?_) fun H11 hH11 => ?_
  · obtain ⟨dx, kn, ts, B, nk⟩ := id b10.ex
    refine ⟨_, rfl, x, dx, _, rfl, T10.rd B.ob, rfl, ?_⟩
    refine ⟨78, rfl, by decide, by decide, fun D0 nD => ?_⟩
    refine lc_range (lo := 0) (n := 78) (fun j H3 => Nw (ov Hm10 [(P1, ps10)]) H3 ∧ ∃ us : List Addr, H3 D0 = some (.lst (us.map V.ref)) ∧ TAt H3 us ((List.range j).map kW78)) ⟨Nw.new nD, [], upd_same, .nil⟩ ?_ ?_
    · rintro j H3 hj ⟨k3, us, hD, hus⟩
      have lus := paired_len hus
      rw [List.length_map, List.length_range] at lus
      refine ⟨rfl, yesT ?_⟩
      refine ⟨_, rfl, _, _, rfl, rfl, _, rfl, _, _, rfl, rfl, (by show (0 : Int) < 8; decide), _, rfl, _, _, rfl, rfl, (by show (0 : Int) < 12; decide), (by show 5 ≤ sizeLine; decide), fun t nt => ?_⟩
      have kt : Nw H3 (upd H3 t (.tup (kW78 j).V)) := Nw.new nt
      have ht : (upd H3 t (.tup (kW78 j).V)) t = some (.tup (kW78 j).V) := upd_same
      have hD' := kt _ _ hD
      refine ⟨_, hD', lt80 (by rw [List.length_map]; omega), (k3.trans kt).mut nD, us ++ [t], ?_, ?_⟩
      · rw [upd_same, List.map_append] <;> rfl
      · rw [List.range_succ, List.map_append]
        exact TAt.up hD' (fun ys z => nomatch z) (paired_snoc (hus.k kt.kx) ht)
    rintro Z3 ⟨z3, us, hD3, hus⟩
    have hus : TAt Z3 us k78 := hus
    obtain ⟨Hm11, rfl, T11, n11, s11⟩ := nw_back T10 z3
    have B11 := B.k n11.kx
    have hus2 : TAt Hm11 us k78 := paired_imp (fun _ _ z => s11 _ _ z fun ps y => (by cases y)) hus
    refine ⟨Hm11, _, rfl, T11.o, fun B' ext ok L => ⟨x, dx, kn, D0, 2, ts, w2, k78, ds, rfl, B11, ⟨us, sq_of (s11 _ _ hD3 fun ps y => (by cases y)), hus2.w⟩, ⟨by decide, w2_ok⟩, ⟨by rw [k78_len]; decide, k78_ok⟩, al80, ho, by omega, fun H' r ts' ke nr B2 oo => ?_⟩⟩
    obtain ⟨T12, b12⟩ := hear_post T11 (b10.kx n11.kx) B11 nr ke B2 oo
    refine ⟨rfl, _, rfl, ?_⟩
    rw [eqI (show ((ds.length : Nat) : Int) - ((w2.length : Nat) : Int) = 78 by rw [lds] <;> rfl)]
    exact q2 _ ⟨H', rfl, T12, b12⟩
  obtain ⟨Hm11, rfl, T11, b11⟩ := hH11
  obtain ⟨dx2, kn2, ts2, B11, nk2⟩ := id b11.ex
  have full : ¬ (nextC ds ≤ 99 ∧ ds.length < 80) := fun z => by omega
  refine if_or_no (A := StT P1 (qlam "_law_book_right") Hm11) (B := StT P1 (qlam "_law_book_right") Hm11) (each_cps (i := 8) (A := fun d => ∃ a, d = .str a ∧ a ∈ ansL) h8 (getL_lst (mks := [mkn_law_book_right_6 s.heap.objs.size]) (mal_cons (mko_law_book_right_6 s.heap.objs.size) mal_nil) (by exact Nat.le_of_ble_eq_true rfl) T11) (fun Hm12 ps12 k12 T12 => getT_ma (Γ := []) (ds := [.str "yes", .str "no"]) (by repeat' (first | exact mks_nil | apply mks_cons | exact mk_non | exact mk_bl | exact mk_int | exact mk_str | exact mk_neg | exact mk_dct | exact mk_varI rfl | exact mk_var rfl List.mem_cons_self | exact mk_var rfl (List.mem_cons_of_mem _ List.mem_cons_self) | exact mk_var rfl (List.mem_cons_of_mem _ (List.mem_cons_of_mem _ List.mem_cons_self)) | apply mk_tup | apply mk_lst | apply mk_add | apply mk_sub | apply mk_rep | apply mk_list | apply mk_take | apply mk_catT | apply mk_cat | exact Nat.le_of_ble_eq_true rfl | exact List.cons_ne_nil _ _)) T12 gamA0 (by exact Nat.le_of_ble_eq_true rfl) strs_yes)
    (fun Hm12 k12 B' ext ok L mk hmk d f v hd hl hv => refF6 rfl (by omega) full fF (B11.k k12) ext ok L hd hv mk hmk hl)) (fun H1 hH1 Q2 q2 => c2_len rfl b11 lds hH1 Q2 q2) fun H12 hH12 => ?_
  obtain ⟨Hm12, ps12, rfl, T12, k12⟩ := hH12
  have B12 := B11.k k12
  refine if_no (A := StT P1 (qlam "_law_book_right") Hm12) (each_cps (i := 6) (A := fun d => ansB d = false) h6 (getL_lst (mks := [mkn_law_book_right_7 s.heap.objs.size]) (mal_cons (mko_law_book_right_7 s.heap.objs.size) mal_nil) (by exact Nat.le_of_ble_eq_true rfl) T12) (fun Hm13 ps13 k13 T13 => getT_ma (Γ := []) (ds := [.str "on"]) (by repeat' (first | exact mks_nil | apply mks_cons | exact mk_non | exact mk_bl | exact mk_int | exact mk_str | exact mk_neg | exact mk_dct | exact mk_varI rfl | exact mk_var rfl List.mem_cons_self | exact mk_var rfl (List.mem_cons_of_mem _ List.mem_cons_self) | exact mk_var rfl (List.mem_cons_of_mem _ (List.mem_cons_of_mem _ List.mem_cons_self)) | apply mk_tup | apply mk_lst | apply mk_add | apply mk_sub | apply mk_rep | apply mk_list | apply mk_take | apply mk_catT | apply mk_cat | exact Nat.le_of_ble_eq_true rfl | exact List.cons_ne_nil _ _)) T13 gamA0 (by exact Nat.le_of_ble_eq_true rfl) (all_no (by decide +kernel)))
    (fun Hm13 k13 B' ext ok L mk hmk d f v hd hl hv => refA7 rfl fA (B12.k k13) ext ok L hd hv mk hmk hl)) fun H13 hH13 => ?_
  obtain ⟨Hm13, ps13, rfl, T13, k13⟩ := hH13
  have b13 := (b11.kx k12).kx k13
  refine asg_book T13 (by decide) (by decide) fun y Hm14 k14 T14 b14 => ?_
  obtain ⟨dy, kn4, ts4, B14, nk4⟩ := id b14.ex
  refine if_c_no (A := fun H2 => ∃ Hm15 : Hp, H2 = ov Hm15 [(P1, ps13)] ∧ Tb Hm15 P1 ps13 (qlam "_law_book_right") ∧ Bs cBo Hm13 Hm15 y 1 [w99]) (B := fun H2 => ∃ (Hm16 : Hp) (ps16 : Array Value), H2 = ov Hm16 [(P1, ps16)] ∧ Tb Hm16 P1 ps16 (qlam "_law_book_right") ∧ Bs cBo Hm13 Hm16 y 1 [w99]) (fun Q2 q2 => ?_) (fun H15 hH15 Q' q' => ?_) fun H16 hH16 => ?_
  · refine ⟨_, rfl, y, dy, _, rfl, T14.rd B14.ob, rfl, ?_⟩
    refine cons_ma (S := []) (Γ := []) (d := .lst ([w99].map Wd.th)) (by repeat' (first | exact mks_nil | apply mks_cons | exact mk_non | exact mk_bl | exact mk_int | exact mk_str | exact mk_neg | exact mk_dct | exact mk_varI rfl | exact mk_var rfl List.mem_cons_self | exact mk_var rfl (List.mem_cons_of_mem _ List.mem_cons_self) | exact mk_var rfl (List.mem_cons_of_mem _ (List.mem_cons_of_mem _ List.mem_cons_self)) | apply mk_tup | apply mk_lst | apply mk_add | apply mk_sub | apply mk_rep | apply mk_list | apply mk_take | apply mk_catT | apply mk_cat | exact Nat.le_of_ble_eq_true rfl | exact List.cons_ne_nil _ _)) gam0 noS fun v Z3 z3 hv => ?_
    rw [wo_nil] at hv
    obtain ⟨Hm15, rfl, T15, n15, s15⟩ := nw_back T14 z3
    obtain ⟨l, rfl, hw⟩ := at_words (K := K) (hv.mono s15)
    have B15 := B14.k n15.kx
    refine ⟨Hm15, _, rfl, T15.o, fun B' ext ok L => ⟨y, dy, kn4, l, 1, ts4, [], [w99], [w99], rfl, B15, hw, ⟨by decide, (fun x hx => absurd hx List.not_mem_nil)⟩, ⟨by decide, by decide +kernel⟩, by decide +kernel, ⟨fun _ => Iff.rfl, List.pairwise_singleton _ _⟩, by decide, fun H' r ts' ke nr B2 oo => ?_⟩⟩
    obtain ⟨T16, b16⟩ := hear_post T15 (b14.kx n15.kx) B15 nr ke B2 oo
    refine ⟨rfl, _, rfl, ?_⟩
    exact q2 _ ⟨H', rfl, T16, b16⟩
  · obtain ⟨Hm15, rfl, T15, b15⟩ := hH15
    obtain ⟨dx5, kn5, ts5, B15, nk5⟩ := id b15.ex
    refine each_cps (P := P) (w := w) (K := K) (mg := mg) (cs := cs) (i := 8) (A := fun d => ∃ a, d = .str a ∧ a ∈ ansL) h8 (getL_lst (mks := [mkn_law_book_right_8 s.heap.objs.size]) (mal_cons (mko_law_book_right_8 s.heap.objs.size) mal_nil) (by exact Nat.le_of_ble_eq_true rfl) T15) (fun Hm16 ps16 k16 T16 => getT_ma (Γ := []) (ds := [.str "yes"]) (by repeat' (first | exact mks_nil | apply mks_cons | exact mk_non | exact mk_bl | exact mk_int | exact mk_str | exact mk_neg | exact mk_dct | exact mk_varI rfl | exact mk_var rfl List.mem_cons_self | exact mk_var rfl (List.mem_cons_of_mem _ List.mem_cons_self) | exact mk_var rfl (List.mem_cons_of_mem _ (List.mem_cons_of_mem _ List.mem_cons_self)) | apply mk_tup | apply mk_lst | apply mk_add | apply mk_sub | apply mk_rep | apply mk_list | apply mk_take | apply mk_catT | apply mk_cat | exact Nat.le_of_ble_eq_true rfl | exact List.cons_ne_nil _ _)) T16 gamA0 (by exact Nat.le_of_ble_eq_true rfl) fun d hd => strs_yes d (by rw [List.mem_singleton.mp hd]; exact List.mem_cons_self))
      (fun Hm16 k16 B' ext ok L mk hmk d f v hd hl hv => refF8 rfl (by decide) (by decide) fF (B15.k k16) ext ok L hd hv mk hmk hl) Q' fun H16 hH16 => ?_
    obtain ⟨Hm16, ps16, rfl, T16, k16⟩ := hH16
    exact q' _ ⟨Hm16, ps16, rfl, T16, b15.kx k16⟩
  obtain ⟨Hm16, ps16, rfl, T16, b16⟩ := hH16
  obtain ⟨dx6, kn6, ts6, B16, nk6⟩ := id b16.ex
  refine ⟨_, rfl, y, dx6, _, rfl, T16.rd B16.ob, rfl, y, dx6, kn6, 1, ts6, [w99], rfl, B16.sub T16.sub, fun H' r n nr hr => ?_⟩
  obtain ⟨Hm17, rfl, T17, n17, s17⟩ := nw_back T16 n
  refine ma_ov (Γ := []) (d := .lst ([w99].map Wd.th)) (by repeat' (first | exact mks_nil | apply mks_cons | exact mk_non | exact mk_bl | exact mk_int | exact mk_str | exact mk_neg | exact mk_dct | exact mk_varI rfl | exact mk_var rfl List.mem_cons_self | exact mk_var rfl (List.mem_cons_of_mem _ List.mem_cons_self) | exact mk_var rfl (List.mem_cons_of_mem _ (List.mem_cons_of_mem _ List.mem_cons_self)) | apply mk_tup | apply mk_lst | apply mk_add | apply mk_sub | apply mk_rep | apply mk_list | apply mk_take | apply mk_catT | apply mk_cat | exact Nat.le_of_ble_eq_true rfl | exact List.cons_ne_nil _ _)) T17 gamA0 fun v Hm18 n18 T18 hv => ?_
  obtain ⟨l, ys, rfl, hl, hys⟩ := hv
  obtain ⟨us, rfl, _, hus⟩ := ats_wds (K := K) hys
  have ok99 : ∀ x ∈ [w99], x.ok := by decide +kernel
  have hr18 : Hm18 r = some (.lst (ts6.map V.ref)) := n18 _ _ (s17 _ _ hr fun ps z => (by cases z))
  have e1 : TAt (ov Hm18 [(P1, ps16)]) ts6 [w99] := ((B16.k n17.kx).k n18.kx |>.sub T18.sub).ws
  have e2 : TAt (ov Hm18 [(P1, ps16)]) us [w99] := paired_imp (fun _ _ z => T18.rd z) hus
  refine ⟨wsD [w99], wsD [w99], wsD_dp ⟨ts6, sq_of (T18.rd hr18), e1.w⟩, wsD_dp ⟨us, sq_of (T18.rd hl), e2.w⟩, wsD_sh ok99, wsD_sh ok99, ?_⟩
  rw [wsD_eqv, decide_eq_true rfl]
  exact q Hm18 ps16 ((((k1.trans b13.k).trans b16.k).trans n17.kx).trans n18.kx) T18
end
end CH
end

section
set_option Elab.async false
set_option linter.all false
set_option maxRecDepth 100000
set_option maxHeartbeats 4000000
namespace CH
open PySem PySem.Spec PyProof.Rows L2
open GxR (TabB TabG Tabbed)
section
variable {P : Program} {w : World} {K : PySem.W.Frag} {mg : Str → Option Value} {base : Heap} {c aA cc cm cAt cBa cMo cTi P1 P2 : Addr}
abbrev st_law : Stmt := top 74
abbrev nm_law : List Str := ["_law_script", "_law_cell", "_law_more"]
theorem sc_law : FnScope nm_law ["_law_script"] (defScope st_law) := C8.fnScope_by (by decide +kernel)
/-- what all bases hold -/
structure Pack (P : Program) (w : World) (K : PySem.W.Frag) (mg : Str → Option Value) (cs : List Addr) (cB cU cM cO cT cm cBo cHa cPe cHo cWd : Addr) (B : Heap) : Prop where
  each : C8.Cal P w K mg B 12 "_law_each" (sp_each P w K mg cs B) []
  fj : CalX P w K mg B 7 "joined" (sp_jbad K cB cU)
  fh : CalX P w K mg B 8 "hours" (sp_door2 cB cU cM cm)
  fm : CalX P w K mg B 8 "hours_maybe" (sp_door2 cB cU cM cm)
  ff : CalX P w K mg B 7 "first" (sp_door2 cB cU cM cm)
  ft : CalX P w K mg B 7 "table" (sp_door3 cB cU cM cO cm)
  fe : MetX P w K mg B 8 cBo "hear" (sp_hearT K cBo cB cU)
  fA : MetX P w K mg B 5 cBo "answer" (sp_answerT cPe cHo cWd)
  fS : MetX P w K mg B 5 cBo "says" (sp_saysT cPe cHo)
  fD : MakX P w K mg B 5 "Book" cBo (sp_Book_bad cBo cHa)
  fF : MetX P w K mg B 5 cBo "answer" (sp_answer K cBo cT)
  an : C8.Met P w K mg B 5 cBo "answer" (sp_answer0 K cBo) []
  he : C8.Met P w K mg B 8 cBo "hear" (sp_hear0 K cBo) []
  nu : C8.Cal P w K mg B 1 "_law_no_numbers" sp_no_numbers []
  wo_ : C8.Cal P w K mg B 2 "_law_no_words" sp_no_words []
  me : C8.Cal P w K mg B 2 "_law_no_meetings" sp_no_meetings []
  bo : C8.Mak P w K mg B 5 "Book" cBo (sp_Book_initN K cBo) []
  al : C8.Met P w K mg B 1 cBo "all_words" (sp_all_wordsN K cBo) []
theorem Ext.trans {B B1 B2 : Heap} (a : Ext B B1) (b : Ext B1 B2) : Ext B B2 := fun c o e => b c o (a c o e)
theorem tabE {B B1 : Heap} {mg : Str → Option Value} {c P : Addr} (t : TabB B mg c P) (e : Ext B B1) : TabB B1 mg c P := ⟨t.code.keeps e, t.bm.keeps e, t.gP⟩
theorem nine_of {K : PySem.W.Frag} {cH : Addr} (xs : List Str) (h1 : kitsB K xs = true) (h2 : kitsVB K xs = true) (m : ∀ x ∈ xs, PySem.W.exmOne K (.ref (He.ga K x)) (.ref cH) = some true) (e : ∀ x ∈ xs, ExcC K (He.ga K x)) : Nine K cH (xs.map (He.ga K)) := by
  have at_ : ∀ {i : Nat} {C : Addr}, (xs.map (He.ga K))[i]? = some C → ∃ x ∈ xs, C = He.ga K x := fun {i C} hi => by
    rw [List.getElem?_map] at hi
    obtain ⟨x, hx, rfl⟩ := Option.map_eq_some_iff.mp hi
    exact ⟨x, List.mem_of_getElem? hx, rfl⟩
  refine ⟨fun i C hi => ?_, fun i j C D => kitsB_ok h1 i j C D, fun i C => kitsVB_ok h2 i C, fun i C hi => ?_⟩
  · obtain ⟨x, hx, rfl⟩ := at_ hi
    exact m x hx
  · obtain ⟨x, hx, rfl⟩ := at_ hi
    exact e x hx
/-- numbers of at most so many bits -/
def Bits (i : Int) (n : Nat) : Prop := i.natAbs < 2 ^ n
theorem Bits.mono {i : Int} {n m : Nat} (h : Bits i n) (l : n ≤ m) : Bits i m := Nat.lt_of_lt_of_le h (Nat.pow_le_pow_right (by decide) l)
theorem ov_swap {Hm : Hp} {p1 p2 : Array Value} (d : P1 ≠ P2) : ov (ov Hm [(P1, p1)]) [(P2, p2)] = ov (ov Hm [(P2, p2)]) [(P1, p1)] := by
  funext b
  by_cases h1 : b = P1
  · subst h1
    rw [ov_out (look1 d), ov_in look1s, ov_in look1s]
  · by_cases h2 : b = P2
    · subst h2
      rw [ov_in look1s, ov_out (look1 h1), ov_in look1s]
    · rw [ov_out (look1 h2), ov_out (look1 h1), ov_out (look1 h1), ov_out (look1 h2)]
theorem ov_two {H : Hp} {p1 p2 : Array Value} (t1 : H P1 = some (.tbl p1)) (t2 : H P2 = some (.tbl p2)) : H = ov (ov (wo [P1, P2] H) [(P1, p1)]) [(P2, p2)] := by
  funext b
  by_cases h2 : b = P2
  · subst h2
    rw [ov_in look1s, t2]
  · rw [ov_out (look1 h2)]
    by_cases h1 : b = P1
    · subst h1
      rw [ov_in look1s, t1]
    · rw [ov_out (look1 h1)]
      unfold wo
      rw [if_neg fun z => by
        rcases List.mem_cons.mp z with z | z
        · exact h1 z
        · exact h2 (List.mem_singleton.mp z)]
theorem wo_tab {H : Hp} {p : Addr} (t : TabG H p) (n1 : p ≠ P1) (n2 : p ≠ P2) : TabG (wo [P1, P2] H) p := by
  obtain ⟨ps, e, tr⟩ := t
  refine ⟨ps, ?_, tr⟩
  unfold wo
  rw [if_neg fun z => by
    rcases List.mem_cons.mp z with z | z
    · exact n1 z
    · exact n2 (List.mem_singleton.mp z)]
  exact e
theorem ov_ok2 {Hm : Hp} {p1 p2 : Array Value} (d : P1 ≠ P2) (n : Hm P2 = none) : OvOk (ov Hm [(P1, p1)]) [(P2, p2)] := ovOk1 (by rw [ov_out (look1 d.symm)]; exact n)
theorem tab_ov {Hm : Hp} {p : Addr} {p1 p2 : Array Value} (n1 : p ≠ P1) (n2 : p ≠ P2) (t : TabG Hm p) : TabG (ov (ov Hm [(P1, p1)]) [(P2, p2)]) p := by
  obtain ⟨ps, e, tr⟩ := t
  exact ⟨ps, by rw [ov_out (look1 n2), ov_out (look1 n1)]; exact e, tr⟩
theorem asg_num {σ : L2.St} {D : Ends} {rest : TS} {j : Nat} {H : Hp} {t : TE} (h : ∀ Q : VK, (∀ m : Int, 0 ≤ m → Q (.int m) H) → t σ H Q) (q : ∀ m : Int, 0 ≤ m → rest D (σ.set j (some (.int m))) H) : tSeq (tAsg t (gName j)) rest D σ H := h (fun v H' => rest D (σ.set j (some v)) H') q
theorem if_no_no {σ : L2.St} {D : Ends} {H : Hp} {t u : TE} {a : TS} {A B : Hp → Prop} (h : ∀ Q : VK, (∀ H1, A H1 → Q (.bl true) H1) → t σ H Q) (h2 : ∀ H1, A H1 → ∀ Q : VK, (∀ H2, B H2 → Q (.bl true) H2) → u σ H1 Q) (qq : ∀ H2, B H2 → D.nx σ H2) : tIfS (tOr (tNot (tB t)) (tNot (tB u))) a tNext D σ H := by
  refine h _ fun H1 hA => ⟨true, rfl, ?_⟩
  show if (!true) = true then _ else _
  rw [if_neg (by decide)]
  refine h2 H1 hA _ fun H2 hB => ⟨true, rfl, ?_⟩
  show if (!true) = true then _ else _
  rw [if_neg (by decide)]
  exact qq H2 hB
def m7 : Mt := ⟨[7], 1, []⟩
def m0M : Mt := ⟨[0], 1, []⟩
theorem m7_ok : m7.ok := ⟨⟨by decide, by decide, trivial⟩, trivial, by decide, by decide, by decide⟩
theorem m0_ok : m0M.ok := ⟨⟨by decide, by decide, trivial⟩, trivial, by decide, by decide, by decide⟩
theorem m7_no : hoursL m7 ["yes"] (ansF []) = [] := by decide +kernel
theorem m7_rows : ((List.range 12).map fun o => notYes m7 fun x => ansW [] x (o : Nat)) = List.replicate 12 [7] := by decide +kernel
theorem m0_no : hoursL m0M ["yes"] (ansF []) = [] := by decide +kernel
theorem al_nil : Alike [] := fun a ha => absurd ha List.not_mem_nil
theorem rows_rep {H : Hp} {t : Addr} {r : List Int} (h : SqL K H t (r.map V.int)) (l : r.length ≤ 1000) : ∀ n : Nat, RowsIn K H (List.replicate n t) (List.replicate n r)
  | 0 => .nil
  | n + 1 => .cons ⟨h, l⟩ (rows_rep h l n)
/-- what the law holds between its turns -/
def Two (P1 P2 cm cc r : Addr) (xs : List V) (H : Hp) : Prop := ∃ (Hm : Hp) (p1 p2 : Array Value), H = ov (ov Hm [(P1, p1)]) [(P2, p2)] ∧ Tb Hm P1 p1 (qlam "_law_tables_right") ∧ Tb Hm P2 p2 (qlam "_law_book_right") ∧ Hm r = some (.lst xs) ∧ TabG Hm cm ∧ TabG Hm cc
def sp_law (K : PySem.W.Frag) (cm cc P1 P2 : Addr) : Sp := fun vs H Q _ => ∃ (a : Addr) (ns : List Int), vs = [.ref a] ∧ SqL K H a (ns.map V.int) ∧ ns.length ≤ 63 ∧ (∀ z ∈ ns, Bits z 1100000) ∧ TabG H cm ∧ TabG H cc ∧ H P1 = some (.tbl #[]) ∧ H P2 = some (.tbl #[]) ∧ ∀ H' : Hp, Q (.bl true) H'
theorem ok_law (T : Tx K mg aA) (e_Barred : Own K mg "Barred" cBa) (e_Tight : Own K mg "Tight" cTi) (n_rows : NoAttr K cBa "rows") (n_hours : NoAttr K cTi "hours") (d12 : P1 ≠ P2) (dm1 : cm ≠ P1) (dm2 : cm ≠ P2) (dc1 : cc ≠ P1) (dc2 : cc ≠ P2)
    (f__law_tables_right : ∀ B, Ext base B → C8.Cal P w K mg B 13 "_law_tables_right" (sp_tables P1 cm) []) (f__law_book_right : ∀ B, Ext base B → C8.Cal P w K mg B 13 "_law_book_right" (sp_books P2) [])
    (f_first : C8.Cal P w K mg base 7 "first" (sp_first K cm cc cAt cBa) []) (f_table : C8.Cal P w K mg base 7 "table" (sp_table K cm cc cMo cTi) [])
    {fa : Addr} {A : Around} {outer : List Env} {s : Shared} {H : Hp} {vs : List V} {Q : VK} {E : XK} (hr : Room 13 (A.deeper (envOfC "law" (defScope st_law) s.heap.objs.size fa (.ref c)))) (h : sp_law K cm cc P1 P2 vs H Q E) :
    ∃ t, PSs (cxOf CX0 P w K mg base nm_law "law" (defScope st_law) fa (.ref c) A outer s H E).nox (defBody st_law) t ∧ t { nx := fun _ H' => Q .non H', rt := Q } (L2.start nm_law vs) H := by
  obtain ⟨a, ns, rfl, ha, h63, hb, tm, tc, t1, t2, q⟩ := h
  have nd := sc_law.nd
  have hu := hu_of hr
  refine ⟨_, (pss_cons (ps_for PassesOwn.never rfl (pi_list (pe_op op_cat (pe_slice sl_list (pv 0) po_none (po_some pe_int)) (pe_lst (pa_cons (pe_callB call_len_seq (by rfl) T.z_len PySem.boot_len (pa_cons (pv 0) pa_nil)) pa_nil)))) (pg_name (i := 1) nd rfl (Or.inl rfl)) (pss_cons (ps_set (i := 2) nd rfl (Or.inl rfl) (pe_op op_mod (pe_callB call_abs (by rfl) T.z_abs (by decide +kernel) (pa_cons (pv 1) pa_nil)) (pe_op op_pow pe_int pe_int)))
      (pss_one (ps_if (PW.pt (pw_or (pt_not (pt_val (pe_lend f__law_tables_right (fun _ => rfl) rfl rfl hr (by decide) (by rfl) (pa_cons (pv 2) pa_nil)))) (pw_or1 (pt_not (pt_val (pe_lend f__law_book_right (fun _ => rfl) rfl rfl hr (by decide) (by rfl) (pa_cons (pv 2) pa_nil))))))) (pss_one (ps_ret pe_bl)) pss_nil))))
      (pss_one (ps_ret (pe_and (pe_cmpR (op_eqD hr.units) (pe_fld (C8.pe_c f_first hr (by first | decide | exact hkp) (by rfl) (pa_cons (pe_lst pa_nil) (pa_cons (pe_tup (pa_cons (pe_tup (pa_cons pe_int pa_nil)) (pa_cons pe_int (pa_cons (pe_tup pa_nil) pa_nil)))) pa_nil))) rfl) (pe_op op_rep (pe_lst (pa_cons (pe_lst (pa_cons pe_int pa_nil)) pa_nil)) pe_int) (nomark _)) (pe_one (pe_cmpR (op_eqD hr.units) (pe_fld (C8.pe_c f_table hr (by first | decide | exact hkp) (by rfl) (pa_cons (pe_lst pa_nil) (pa_cons (pe_lst (pa_cons (pe_tup (pa_cons (pe_tup (pa_cons pe_int pa_nil)) (pa_cons pe_int (pa_cons (pe_tup pa_nil) pa_nil)))) pa_nil)) (pa_cons (pe_lst (pa_cons pe_int pa_nil)) pa_nil)))) rfl) (pe_lst pa_nil) (nomark _))))))), ?_⟩
  refine ⟨_, rfl, 4, rfl, a, _, rfl, ha, fun p np => ?_⟩
  have ec : cutV (ns.map V.int) none (some 4) = (ns.take 4).map V.int := by rw [show (some (4 : Int)) = some ((4 : Nat) : Int) from rfl, cutV_take, List.map_take]
  rw [ec]
  have n1 : Nw H (upd H p (.lst ((ns.take 4).map V.int))) := Nw.new np
  have hp : (upd H p (.lst ((ns.take 4).map V.int))) p = some (.lst ((ns.take 4).map V.int)) := upd_same
  generalize upd H p (.lst ((ns.take 4).map V.int)) = H1 at n1 hp ⊢
  refine ⟨_, rfl, a, _, rfl, .inl (n1.kx.l ha), (by show 1 ≤ sizeLine; decide), fun p2 np2 => ?_⟩
  rw [List.length_map]
  have n2 : Nw H1 (upd H1 p2 (.lst [.int ((ns.length : Nat) : Int)])) := Nw.new np2
  have hp2 : (upd H1 p2 (.lst [.int ((ns.length : Nat) : Int)])) p2 = some (.lst [.int ((ns.length : Nat) : Int)]) := upd_same
  generalize upd H1 p2 (.lst [.int ((ns.length : Nat) : Int)]) = H2 at n2 hp2 ⊢
  refine ⟨p, p2, _, _, rfl, rfl, n2 _ _ hp, hp2, small80 (by rw [List.length_map, List.length_take]; show _ + 1 ≤ _; omega), fun r nr => ?_⟩
  obtain ⟨xs, exs⟩ : ∃ xs : List Int, (ns.take 4).map V.int ++ [V.int ((ns.length : Nat) : Int)] = xs.map V.int := ⟨ns.take 4 ++ [((ns.length : Nat) : Int)], by rw [List.map_append] <;> rfl⟩
  rw [exs]
  have n3 : Nw H2 (upd H2 r (.lst (xs.map V.int))) := Nw.new nr
  have hr3 : (upd H2 r (.lst (xs.map V.int))) r = some (.lst (xs.map V.int)) := upd_same
  generalize upd H2 r (.lst (xs.map V.int)) = H3 at n3 hr3 ⊢
  have n13 := (n1.trans n2).trans n3
  have T3 : Two P1 P2 cm cc r (xs.map V.int) H3 := by
    have e1 := n13 _ _ t1
    have e2 := n13 _ _ t2
    refine ⟨wo [P1, P2] H3, #[], #[], ov_two e1 e2, ⟨?_, TabL.nil⟩, ⟨?_, TabL.nil⟩, ?_, wo_tab (n13.kx.g _ tm) dm1 dm2, wo_tab (n13.kx.g _ tc) dc1 dc2⟩
    · unfold wo
      rw [if_pos List.mem_cons_self]
    · unfold wo
      rw [if_pos (List.mem_cons_of_mem _ List.mem_cons_self)]
    · unfold wo
      rw [if_neg fun z => by
        rcases List.mem_cons.mp z with z | z
        · rw [z, e1] at hr3
          cases hr3
        · rw [List.mem_singleton.mp z, e2] at hr3
          cases hr3]
      exact hr3
  refine ⟨r, rfl, ⟨_, sq_of hr3⟩, for_list (K := K) (a := r) (xs := xs.map V.int) (fun i σ Hx => ∃ v1 v2 : Option V, σ = [some (.ref a), v1, v2] ∧ Two P1 P2 cm cc r (xs.map V.int) Hx) ⟨none, none, rfl, T3⟩ (fun i σ Hx _ h => ?_) ?_ ?_⟩
  · obtain ⟨_, _, _, Hm, p1, p2, rfl, Ta, Tb_, hr, _⟩ := h
    exact sq_of ((ov_of (ov_ok2 d12 Tb_.n) (Ta.rd hr)).1)
  · rintro i y σ Hx hi ⟨v1, v2, rfl, Hm, p1, p2, rfl, Ta, Tb_, hr, tm', tc'⟩
    obtain ⟨z, hz, rfl⟩ : ∃ z, xs[i]? = some z ∧ V.int z = y := by
      rw [List.getElem?_map] at hi
      exact Option.map_eq_some_iff.mp hi
    refine asg_num (fun Q' q' => ⟨_, rfl, z, rfl, 10, 20, rfl, rfl, ⟨by decide, by decide, by decide⟩, _, _, rfl, rfl, ?_, q' _ (Int.emod_nonneg _ ?_)⟩) fun m m0 => ?_
    · show (0 : Int) < 10 ^ 20
      decide
    · show (10 : Int) ^ 20 ≠ 0
      decide
    refine if_no_no (A := Two P1 P2 cm cc r (xs.map V.int)) (B := Two P1 P2 cm cc r (xs.map V.int)) (fun Q' q' => ?_) (fun H1 hH1 Q' q' => ?_) fun H2 hH2 => ?_
    · refine ⟨_, rfl, ov Hm [(P1, p1)], [(P2, p2)], rfl, ov_ok2 d12 Tb_.n, fun B ext ok L => ⟨m, Hm, p1, rfl, m0, rfl, Ta, tm', fun Hm' p1' k Ta' oo => ?_⟩⟩
      refine q' _ ⟨Hm', p1', p2, rfl, Ta', Tb_.k k ?_, k.lst hr, k.g _ tm', k.g _ tc'⟩
      have := oo.at1
      rwa [ov_out (look1 d12.symm)] at this
    · obtain ⟨Hm, p1, p2, rfl, Ta, Tb_, hr, tm', tc'⟩ := hH1
      rw [ov_swap d12]
      refine ⟨_, rfl, ov Hm [(P2, p2)], [(P1, p1)], rfl, ov_ok2 d12.symm Ta.n, fun B ext ok L => ⟨m, Hm, p2, rfl, m0, rfl, Tb_, fun Hm' p2' k Tb' oo => ?_⟩⟩
      rw [← ov_swap d12]
      refine q' _ ⟨Hm', p1, p2', rfl, Ta.k k ?_, Tb', k.lst hr, k.g _ tm', k.g _ tc'⟩
      have := oo.at1
      rwa [ov_out (look1 d12)] at this
    · exact ⟨_, _, rfl, hH2⟩
  · rintro σ Hx ⟨v1, v2, rfl, Hm, p1, p2, rfl, Ta, Tb_, hr, tm', tc'⟩
    have tmx := tab_ov (p1 := p1) (p2 := p2) dm1 dm2 tm'
    have tcx := tab_ov (p1 := p1) (p2 := p2) dc1 dc2 tc'
    generalize ov (ov Hm [(P1, p1)]) [(P2, p2)] = Hx at tmx tcx ⊢
    refine ⟨Nat.zero_le _, fun l nl => ?_⟩
    have k1 : Kx Hx (upd Hx l (.lst [])) := Kx.new nl
    have hl : (upd Hx l (.lst [])) l = some (.lst []) := upd_same
    generalize upd Hx l (.lst []) = G1 at k1 hl ⊢
    refine ⟨(by show 1 ≤ sizeLine; decide), fun t1 nt1 => ?_⟩
    have k2 : Kx G1 (upd G1 t1 (.tup [.int 7])) := Kx.new nt1
    have ht1 : (upd G1 t1 (.tup [.int 7])) t1 = some (.tup [.int 7]) := upd_same
    generalize upd G1 t1 (.tup [.int 7]) = G2 at k2 ht1 ⊢
    refine ⟨Nat.zero_le _, fun t2 nt2 => ?_⟩
    have k3 : Kx G2 (upd G2 t2 (.tup [])) := Kx.new nt2
    have ht2 : (upd G2 t2 (.tup [])) t2 = some (.tup []) := upd_same
    generalize upd G2 t2 (.tup []) = G3 at k3 ht2 ⊢
    refine ⟨(by show 3 ≤ sizeLine; decide), fun t3 nt3 => ?_⟩
    have k4 : Kx G3 (upd G3 t3 (.tup [.ref t1, .int 1, .ref t2])) := Kx.new nt3
    have ht3 : (upd G3 t3 (.tup [.ref t1, .int 1, .ref t2])) t3 = some (.tup [.ref t1, .int 1, .ref t2]) := upd_same
    generalize upd G3 t3 (.tup [.ref t1, .int 1, .ref t2]) = G4 at k4 ht3 ⊢
    have k14 := (k1.trans k2).trans (k3.trans k4)
    have mat : MAt K G4 t3 m7 := ⟨t1, t2, st_of ht3, st_of ((k3.trans k4).tup ht1), st_of (k4.tup ht2)⟩
    refine ⟨l, t3, [], m7, rfl, ⟨⟨[], sq_of (((k2.trans k3).trans k4).lst hl), .nil⟩, by decide, (fun x hx => absurd hx List.not_mem_nil), al_nil, mat, m7_ok, k14.g _ tmx, k14.g _ tcx⟩, fun h hs eh => ?_, fun _ H' x dx r' ts k hx hxo nr' hr' rn => ?_⟩
    · rw [m7_no] at eh
      cases eh
    refine ⟨x, cBa, dx, _, _, rfl, hxo, e_Barred.cl, n_rows, rfl, ?_⟩
    refine ⟨(by show 1 ≤ sizeLine; decide), fun i1 ni1 => ?_⟩
    rw [show ([.int 7] : List V) = ([7] : List Int).map V.int from rfl]
    have k5 : Kx H' (upd H' i1 (.lst (([7] : List Int).map V.int))) := Kx.new ni1
    have hi1 : (upd H' i1 (.lst (([7] : List Int).map V.int))) i1 = some (.lst (([7] : List Int).map V.int)) := upd_same
    generalize upd H' i1 (.lst (([7] : List Int).map V.int)) = G5 at k5 hi1 ⊢
    refine ⟨(by show 1 ≤ sizeLine; decide), fun i2 ni2 => ?_⟩
    have k6 : Kx G5 (upd G5 i2 (.lst [.ref i1])) := Kx.new ni2
    have hi2 : (upd G5 i2 (.lst [.ref i1])) i2 = some (.lst [.ref i1]) := upd_same
    generalize upd G5 i2 (.lst [.ref i1]) = G6 at k6 hi2 ⊢
    refine ⟨i2, 12, _, rfl, rfl, hi2, by decide, by decide, (by show 1 * 12 ≤ sizeLine; decide), fun i3 ni3 => ?_⟩
    rw [show (List.replicate (12 : Int).toNat [V.ref i1]).flatten = (List.replicate 12 i1).map V.ref from rfl]
    have k7 : Kx G6 (upd G6 i3 (.lst ((List.replicate 12 i1).map V.ref))) := Kx.new ni3
    have hi3 : (upd G6 i3 (.lst ((List.replicate 12 i1).map V.ref))) i3 = some (.lst ((List.replicate 12 i1).map V.ref)) := upd_same
    generalize upd G6 i3 (.lst ((List.replicate 12 i1).map V.ref)) = G7 at k7 hi3 ⊢
    have k57 := (k5.trans k6).trans k7
    have r1 : RowsIn K G7 ts (List.replicate 12 [7]) := by
      have z := (rn.at_.k k57).in_ (K := K)
      rw [m7_rows] at z
      exact z
    refine ⟨rsD _, rsD _, rsD_dp (sq_of (k57.lst hr')) r1, rsD_dp (sq_of hi3) (rows_rep (sq_of ((k6.trans k7).lst hi1)) (by decide) 12), rsD_sh _, rsD_sh _, _, rfl, ?_⟩
    rw [rsD_eqv, decide_eq_true rfl]
    refine iteT ?_
    have kx7 := (k14.trans k).trans k57
    refine ⟨Nat.zero_le _, fun l' nl' => ?_⟩
    have j1 : Kx G7 (upd G7 l' (.lst [])) := Kx.new nl'
    have hl' : (upd G7 l' (.lst [])) l' = some (.lst []) := upd_same
    generalize upd G7 l' (.lst []) = J1 at j1 hl' ⊢
    refine ⟨(by show 1 ≤ sizeLine; decide), fun u1 nu1 => ?_⟩
    have j2 : Kx J1 (upd J1 u1 (.tup [.int 0])) := Kx.new nu1
    have hu1 : (upd J1 u1 (.tup [.int 0])) u1 = some (.tup [.int 0]) := upd_same
    generalize upd J1 u1 (.tup [.int 0]) = J2 at j2 hu1 ⊢
    refine ⟨Nat.zero_le _, fun u2 nu2 => ?_⟩
    have j3 : Kx J2 (upd J2 u2 (.tup [])) := Kx.new nu2
    have hu2 : (upd J2 u2 (.tup [])) u2 = some (.tup []) := upd_same
    generalize upd J2 u2 (.tup []) = J3 at j3 hu2 ⊢
    refine ⟨(by show 3 ≤ sizeLine; decide), fun u3 nu3 => ?_⟩
    have j4 : Kx J3 (upd J3 u3 (.tup [.ref u1, .int 1, .ref u2])) := Kx.new nu3
    have hu3 : (upd J3 u3 (.tup [.ref u1, .int 1, .ref u2])) u3 = some (.tup [.ref u1, .int 1, .ref u2]) := upd_same
    generalize upd J3 u3 (.tup [.ref u1, .int 1, .ref u2]) = J4 at j4 hu3 ⊢
    refine ⟨(by show 1 ≤ sizeLine; decide), fun u4 nu4 => ?_⟩
    have j5 : Kx J4 (upd J4 u4 (.lst [.ref u3])) := Kx.new nu4
    have hu4 : (upd J4 u4 (.lst [.ref u3])) u4 = some (.lst [.ref u3]) := upd_same
    generalize upd J4 u4 (.lst [.ref u3]) = J5 at j5 hu4 ⊢
    refine ⟨(by show 1 ≤ sizeLine; decide), fun u5 nu5 => ?_⟩
    have j6 : Kx J5 (upd J5 u5 (.lst [.int 11])) := Kx.new nu5
    have hu5 : (upd J5 u5 (.lst [.int 11])) u5 = some (.lst [.int 11]) := upd_same
    generalize upd J5 u5 (.lst [.int 11]) = J6 at j6 hu5 ⊢
    have j26 := (j2.trans j3).trans ((j4.trans j5).trans j6)
    have kx8 := kx7.trans (j1.trans j26)
    have mat' : MAt K J6 u3 m0M := ⟨u1, u2, st_of ((j5.trans j6).tup hu3), st_of (((j3.trans j4).trans (j5.trans j6)).tup hu1), st_of ((j4.trans (j5.trans j6)).tup hu2)⟩
    refine ⟨l', u4, u5, [], [m0M], [some 11], rfl, ⟨[], sq_of (j26.lst hl'), .nil⟩, by decide, (fun x hx => absurd hx List.not_mem_nil), al_nil, ⟨[u3], sq_of (j6.lst hu4), .cons mat' .nil⟩, ?_, by decide, sq_of hu5, rfl, ?_, kx8.g _ tmx, kx8.g _ tcx, ?_, ?_⟩
    · intro m hm
      rw [List.mem_singleton.mp hm]
      exact m0_ok
    · intro x hx h e
      rw [List.mem_singleton.mp hx] at e
      cases e
      exact ⟨by decide, by decide⟩
    · intro H2 y dy q1 q2 q3 zs ps rs kk _ _ _ _ _ _ _ _ _ all
      have := all.in_ 0 (by show 0 < 1; decide)
      rw [show canAt (jrows [m0M] [some 11] []) 0 = [] from m0_no] at this
      cases this
    · intro H2 y dy q1 q2 as ks kk _ _ _ _ hy _ hks few
      have l1 : as.length ≤ 1 := by
        have hsub := nodup_sub_len (us := as) (ws := [0]) few.nd fun x hx => by
          have := few.lt x hx
          have e : (jrows [m0M] [some 11] []).length = 1 := rfl
          rw [e] at this
          rw [show x = 0 by omega]
          exact List.mem_cons_self
        exact hsub
      have lk : ks = [] := List.length_eq_zero_iff.mp (by have := few.few; omega)
      subst lk
      refine ⟨y, cTi, dy, _, _, rfl, hy, e_Tight.cl, n_hours, rfl, Nat.zero_le _, fun z nz => ?_⟩
      have kz := Kx.new (u := .lst []) nz
      refine ⟨isD [], isD [], isD_dp (sq_of (kz.lst hks)), isD_dp (sq_of upd_same), isD_sh _, isD_sh _, ?_⟩
      rw [isD_eqv, decide_eq_true rfl]
      exact q _
end
end CH
end

section
set_option Elab.async false
set_option linter.all false
set_option maxRecDepth 100000
set_option maxHeartbeats 4000000
set_option exponentiation.threshold 2000000
namespace CH
open PySem PySem.Spec PyProof.Rows L2
open GxR (TabB TabG Tabbed)
theorem defT_of {K : PySem.W.Frag} {mg : Str → Option Value} {x : Str} {st : Stmt} (F : ∃ fd, FnT K x st (He.fAd K (x, none)) fd) (hm : mg x = some (.ref (He.ga K x))) : DefT K mg x st (He.codeOf K (x, none)) := by
  obtain ⟨fd, F⟩ := F
  refine ⟨_, fd, F, hm, fun oc od osl fd' lk' => ?_⟩
  obtain ⟨oc1, od1, dV, kV, doc, pm, an, cdv, ct, osl1, rfl, lk, hcd, _, _⟩ := F.ex
  obtain ⟨c', ec⟩ := He.codeIn_ref hcd
  have e2 : He.codeOf K (x, none) = c' := He.codeOf_eq lk ec
  rw [lk] at lk'
  cases lk'
  rw [e2]
  exact ec
theorem intE {mg : Str → Option Value} {x : Str} {i : Int} (h : ∃ t, mg x = some (.int i t)) : ∃ u, mg x = some u ∧ RelV (.int i) u := by
  obtain ⟨t, e⟩ := h
  exact ⟨_, e, t, rfl⟩
theorem bits_of {z : Int} (h : Builtin.Int.intBits z ≤ 1048576) : Bits z 1100000 := Bits.mono (n := 1048576) (PySem.intBits_le_iff.mp h) (by decide)
theorem facts {P : Program} {w : World} {K : PySem.W.Frag} {h : Heap} {mg : Str → Option Value} {f : Addr} (X : K.In h) (G : h.Ns mainGlobals mg) (hfa : mg ("law" : Str) = some (.ref f)) (c0 : He.SaysX fa fn [] tf ex w h K) :
    ∃ fd : FuncData, (∀ (s : Shared) (v : Value), BindsTo s fd ⟨[v], []⟩ [("_law_script", v)]) ∧ ∀ base : Heap, K.In base → base.Ns mainGlobals mg → TabB base mg (He.cT K ("is_meeting", none)).1 (He.cT K ("is_meeting", none)).2 → TabB base mg (He.cT K ("can_be", none)).1 (He.cT K ("can_be", none)).2 → TabB base mg (He.cT K ("_law_tables_right", none)).1 (He.cT K ("_law_tables_right", none)).2 → TabB base mg (He.cT K ("_law_book_right", none)).1 (He.cT K ("_law_book_right", none)).2 →
      FnOk P w K mg base CX0 14 f fd ["_law_script"] (sp_law K (He.cT K ("is_meeting", none)).2 (He.cT K ("can_be", none)).2 (He.cT K ("_law_tables_right", none)).2 (He.cT K ("_law_book_right", none)).2) := by
  have c : He.SaysD fa fn K := c0.t.d
  have D_is_whole : DefT K mg "is_whole" (top 20) (He.codeOf K ("is_whole", none)) := defT_of (c.def_ 0 (d := dd "is_whole" (top 20)) rfl) (He.glo_ok X G (c.fact 0 (f := .glo "is_whole") rfl))
  have D_is_number : DefT K mg "is_number" (top 21) (He.codeOf K ("is_number", none)) := defT_of (c.def_ 1 (d := dd "is_number" (top 21)) rfl) (He.glo_ok X G (c.fact 1 (f := .glo "is_number") rfl))
  have D_is_hand : DefT K mg "is_hand" (top 22) (He.codeOf K ("is_hand", none)) := defT_of (c.def_ 2 (d := dd "is_hand" (top 22)) rfl) (He.glo_ok X G (c.fact 2 (f := .glo "is_hand") rfl))
  have D_is_person : DefT K mg "is_person" (top 23) (He.codeOf K ("is_person", none)) := defT_of (c.def_ 3 (d := dd "is_person" (top 23)) rfl) (He.glo_ok X G (c.fact 3 (f := .glo "is_person") rfl))
  have D_is_hour : DefT K mg "is_hour" (top 24) (He.codeOf K ("is_hour", none)) := defT_of (c.def_ 4 (d := dd "is_hour" (top 24)) rfl) (He.glo_ok X G (c.fact 4 (f := .glo "is_hour") rfl))
  have D_is_answer : DefT K mg "is_answer" (top 25) (He.codeOf K ("is_answer", none)) := defT_of (c.def_ 5 (d := dd "is_answer" (top 25)) rfl) (He.glo_ok X G (c.fact 5 (f := .glo "is_answer") rfl))
  have D_is_word : DefT K mg "is_word" (top 26) (He.codeOf K ("is_word", none)) := defT_of (c.def_ 6 (d := dd "is_word" (top 26)) rfl) (He.glo_ok X G (c.fact 6 (f := .glo "is_word") rfl))
  have D_copied_words : DefT K mg "copied_words" (top 27) (He.codeOf K ("copied_words", none)) := defT_of (c.def_ 7 (d := dd "copied_words" (top 27)) rfl) (He.glo_ok X G (c.fact 7 (f := .glo "copied_words") rfl))
  have D_each_once : DefT K mg "each_once" (top 28) (He.codeOf K ("each_once", none)) := defT_of (c.def_ 8 (d := dd "each_once" (top 28)) rfl) (He.glo_ok X G (c.fact 8 (f := .glo "each_once") rfl))
  have D_checked_words : DefT K mg "checked_words" (top 29) (He.codeOf K ("checked_words", none)) := defT_of (c.def_ 9 (d := dd "checked_words" (top 29)) rfl) (He.glo_ok X G (c.fact 9 (f := .glo "checked_words") rfl))
  have D_is_people : DefT K mg "is_people" (top 30) (He.codeOf K ("is_people", none)) := defT_of (c.def_ 10 (d := dd "is_people" (top 30)) rfl) (He.glo_ok X G (c.fact 10 (f := .glo "is_people") rfl))
  have D_is_meeting : DefT K mg "is_meeting" (top 31) (He.codeOf K ("is_meeting", none)) := defT_of (c.def_ 11 (d := dd "is_meeting" (top 31)) rfl) (He.glo_ok X G (c.fact 11 (f := .glo "is_meeting") rfl))
  have D_check_meeting : DefT K mg "check_meeting" (top 32) (He.codeOf K ("check_meeting", none)) := defT_of (c.def_ 12 (d := dd "check_meeting" (top 32)) rfl) (He.glo_ok X G (c.fact 12 (f := .glo "check_meeting") rfl))
  have D_check_meetings : DefT K mg "check_meetings" (top 33) (He.codeOf K ("check_meetings", none)) := defT_of (c.def_ 13 (d := dd "check_meetings" (top 33)) rfl) (He.glo_ok X G (c.fact 13 (f := .glo "check_meetings") rfl))
  have D_check_olds : DefT K mg "check_olds" (top 34) (He.codeOf K ("check_olds", none)) := defT_of (c.def_ 14 (d := dd "check_olds" (top 34)) rfl) (He.glo_ok X G (c.fact 14 (f := .glo "check_olds") rfl))
  have D_check_hand : DefT K mg "check_hand" (top 35) (He.codeOf K ("check_hand", none)) := defT_of (c.def_ 15 (d := dd "check_hand" (top 35)) rfl) (He.glo_ok X G (c.fact 15 (f := .glo "check_hand") rfl))
  have D_check_person : DefT K mg "check_person" (top 36) (He.codeOf K ("check_person", none)) := defT_of (c.def_ 16 (d := dd "check_person" (top 36)) rfl) (He.glo_ok X G (c.fact 16 (f := .glo "check_person") rfl))
  have D_check_hour : DefT K mg "check_hour" (top 37) (He.codeOf K ("check_hour", none)) := defT_of (c.def_ 17 (d := dd "check_hour" (top 37)) rfl) (He.glo_ok X G (c.fact 17 (f := .glo "check_hour") rfl))
  have D_check_answer : DefT K mg "check_answer" (top 38) (He.codeOf K ("check_answer", none)) := defT_of (c.def_ 18 (d := dd "check_answer" (top 38)) rfl) (He.glo_ok X G (c.fact 18 (f := .glo "check_answer") rfl))
  have D_joined : DefT K mg "joined" (top 42) (He.codeOf K ("joined", none)) := defT_of (c.def_ 19 (d := dd "joined" (top 42)) rfl) (He.glo_ok X G (c.fact 19 (f := .glo "joined") rfl))
  have D_answers_that_count : DefT K mg "answers_that_count" (top 43) (He.codeOf K ("answers_that_count", none)) := defT_of (c.def_ 20 (d := dd "answers_that_count" (top 43)) rfl) (He.glo_ok X G (c.fact 20 (f := .glo "answers_that_count") rfl))
  have D_answer_of : DefT K mg "answer_of" (top 44) (He.codeOf K ("answer_of", none)) := defT_of (c.def_ 21 (d := dd "answer_of" (top 44)) rfl) (He.glo_ok X G (c.fact 21 (f := .glo "answer_of") rfl))
  have D_can_be : DefT K mg "can_be" (top 45) (He.codeOf K ("can_be", none)) := defT_of (c.def_ 22 (d := dd "can_be" (top 45)) rfl) (He.glo_ok X G (c.fact 22 (f := .glo "can_be") rfl))
  have D_hours_of : DefQ K mg "hours_of" (top 46) (List.map (He.Dv.v K) [.glo "YES"]) (He.codeOf K ("hours_of", none)) := defQ_of (c.def_ 23 (d := de ("hours_of", none) "hours_of" "hours_of" (top 46) [.glo "YES"]) rfl) (He.glo_ok X G (c.fact 23 (f := .glo "hours_of") rfl))
  have D_hours_by : DefT K mg "hours_by" (top 47) (He.codeOf K ("hours_by", none)) := defT_of (c.def_ 24 (d := dd "hours_by" (top 47)) rfl) (He.glo_ok X G (c.fact 24 (f := .glo "hours_by") rfl))
  have D_hours : DefT K mg "hours" (top 48) (He.codeOf K ("hours", none)) := defT_of (c.def_ 25 (d := dd "hours" (top 48)) rfl) (He.glo_ok X G (c.fact 25 (f := .glo "hours") rfl))
  have D_hours_maybe : DefT K mg "hours_maybe" (top 49) (He.codeOf K ("hours_maybe", none)) := defT_of (c.def_ 26 (d := dd "hours_maybe" (top 49)) rfl) (He.glo_ok X G (c.fact 26 (f := .glo "hours_maybe") rfl))
  have D_copied : DefT K mg "copied" (top 58) (He.codeOf K ("copied", none)) := defT_of (c.def_ 27 (d := dd "copied" (top 58)) rfl) (He.glo_ok X G (c.fact 27 (f := .glo "copied") rfl))
  have D_not_coming : DefT K mg "not_coming" (top 62) (He.codeOf K ("not_coming", none)) := defT_of (c.def_ 28 (d := dd "not_coming" (top 62)) rfl) (He.glo_ok X G (c.fact 28 (f := .glo "not_coming") rfl))
  have D_first : DefT K mg "first" (top 63) (He.codeOf K ("first", none)) := defT_of (c.def_ 29 (d := dd "first" (top 63)) rfl) (He.glo_ok X G (c.fact 29 (f := .glo "first") rfl))
  have D_jump : DefT K mg "jump" (top 59) (He.codeOf K ("jump", none)) := defT_of (c.def_ 30 (d := dd "jump" (top 59)) rfl) (He.glo_ok X G (c.fact 30 (f := .glo "jump") rfl))
  have D_jumps_of : DefT K mg "jumps_of" (top 60) (He.codeOf K ("jumps_of", none)) := defT_of (c.def_ 31 (d := dd "jumps_of" (top 60)) rfl) (He.glo_ok X G (c.fact 31 (f := .glo "jumps_of") rfl))
  have D_Seats_init : MakT K mg "Seats" (He.ga K "Seats") "Seats.__init__" (inClass (top 64) 0) (He.codeOf K ("Seats", some "__init__")) := makT_of (c.def_ 32 (d := de ("Seats", some "__init__") "__init__" "Seats.__init__" (inClass (top 64) 0) []) rfl) (He.mkr_ok (c.fact 90 (f := .mkr "Seats") rfl)) (He.glo_ok X G (c.fact 79 (f := .glo "Seats") rfl))
  have D_Seats_gap : MetT K (He.ga K "Seats") "gap" "Seats.gap" (inClass (top 64) 1) (He.codeOf K ("Seats", some "gap")) := metT_of (c.def_ 33 (d := de ("Seats", some "gap") "gap" "Seats.gap" (inClass (top 64) 1) []) rfl) (He.meth_ok (c.fact 91 (f := .meth "Seats" "gap") rfl)) (He.cls_ok (c.fact 80 (f := .cls "Seats") rfl))
  have D_Seats_ways : MetT K (He.ga K "Seats") "ways" "Seats.ways" (inClass (top 64) 2) (He.codeOf K ("Seats", some "ways")) := metT_of (c.def_ 34 (d := de ("Seats", some "ways") "ways" "Seats.ways" (inClass (top 64) 2) []) rfl) (He.meth_ok (c.fact 92 (f := .meth "Seats" "ways") rfl)) (He.cls_ok (c.fact 80 (f := .cls "Seats") rfl))
  have D_Seats_raise_prices : MetT K (He.ga K "Seats") "raise_prices" "Seats.raise_prices" (inClass (top 64) 3) (He.codeOf K ("Seats", some "raise_prices")) := metT_of (c.def_ 35 (d := de ("Seats", some "raise_prices") "raise_prices" "Seats.raise_prices" (inClass (top 64) 3) []) rfl) (He.meth_ok (c.fact 93 (f := .meth "Seats" "raise_prices") rfl)) (He.cls_ok (c.fact 80 (f := .cls "Seats") rfl))
  have D_Seats_hand_on : MetT K (He.ga K "Seats") "hand_on" "Seats.hand_on" (inClass (top 64) 4) (He.codeOf K ("Seats", some "hand_on")) := metT_of (c.def_ 36 (d := de ("Seats", some "hand_on") "hand_on" "Seats.hand_on" (inClass (top 64) 4) []) rfl) (He.meth_ok (c.fact 94 (f := .meth "Seats" "hand_on") rfl)) (He.cls_ok (c.fact 80 (f := .cls "Seats") rfl))
  have D_Tight_init : MakT K mg "Tight" (He.ga K "Tight") "Tight.__init__" (inClass (top 57) 0) (He.codeOf K ("Tight", some "__init__")) := makT_of (c.def_ 37 (d := de ("Tight", some "__init__") "__init__" "Tight.__init__" (inClass (top 57) 0) []) rfl) (He.mkr_ok (c.fact 95 (f := .mkr "Tight") rfl)) (He.glo_ok X G (c.fact 75 (f := .glo "Tight") rfl))
  have D_Seats_seat : MetT K (He.ga K "Seats") "seat" "Seats.seat" (inClass (top 64) 5) (He.codeOf K ("Seats", some "seat")) := metT_of (c.def_ 38 (d := de ("Seats", some "seat") "seat" "Seats.seat" (inClass (top 64) 5) []) rfl) (He.meth_ok (c.fact 96 (f := .meth "Seats" "seat") rfl)) (He.cls_ok (c.fact 80 (f := .cls "Seats") rfl))
  have D_Moved_init : MakT K mg "Moved" (He.ga K "Moved") "Moved.__init__" (inClass (top 56) 0) (He.codeOf K ("Moved", some "__init__")) := makT_of (c.def_ 39 (d := de ("Moved", some "__init__") "__init__" "Moved.__init__" (inClass (top 56) 0) []) rfl) (He.mkr_ok (c.fact 97 (f := .mkr "Moved") rfl)) (He.glo_ok X G (c.fact 70 (f := .glo "Moved") rfl))
  have D_table : DefT K mg "table" (top 65) (He.codeOf K ("table", none)) := defT_of (c.def_ 40 (d := dd "table" (top 65)) rfl) (He.glo_ok X G (c.fact 32 (f := .glo "table") rfl))
  have D_At_init : MakT K mg "At" (He.ga K "At") "At.__init__" (inClass (top 54) 0) (He.codeOf K ("At", some "__init__")) := makT_of (c.def_ 41 (d := de ("At", some "__init__") "__init__" "At.__init__" (inClass (top 54) 0) []) rfl) (He.mkr_ok (c.fact 98 (f := .mkr "At") rfl)) (He.glo_ok X G (c.fact 64 (f := .glo "At") rfl))
  have D_Barred_init : MakT K mg "Barred" (He.ga K "Barred") "Barred.__init__" (inClass (top 55) 0) (He.codeOf K ("Barred", some "__init__")) := makT_of (c.def_ 42 (d := de ("Barred", some "__init__") "__init__" "Barred.__init__" (inClass (top 55) 0) []) rfl) (He.mkr_ok (c.fact 99 (f := .mkr "Barred") rfl)) (He.glo_ok X G (c.fact 67 (f := .glo "Barred") rfl))
  have D_Book_init : MakT K mg "Book" (He.ga K "Book") "Book.__init__" (inClass (top 51) 0) (He.codeOf K ("Book", some "__init__")) := makT_of (c.def_ 43 (d := de ("Book", some "__init__") "__init__" "Book.__init__" (inClass (top 51) 0) []) rfl) (He.mkr_ok (c.fact 100 (f := .mkr "Book") rfl)) (He.glo_ok X G (c.fact 86 (f := .glo "Book") rfl))
  have D_Book_answer : MetT K (He.ga K "Book") "answer" "Book.answer" (inClass (top 51) 1) (He.codeOf K ("Book", some "answer")) := metT_of (c.def_ 44 (d := de ("Book", some "answer") "answer" "Book.answer" (inClass (top 51) 1) []) rfl) (He.meth_ok (c.fact 101 (f := .meth "Book" "answer") rfl)) (He.cls_ok (c.fact 87 (f := .cls "Book") rfl))
  have D_Book_hear : MetT K (He.ga K "Book") "hear" "Book.hear" (inClass (top 51) 2) (He.codeOf K ("Book", some "hear")) := metT_of (c.def_ 45 (d := de ("Book", some "hear") "hear" "Book.hear" (inClass (top 51) 2) []) rfl) (He.meth_ok (c.fact 102 (f := .meth "Book" "hear") rfl)) (He.cls_ok (c.fact 87 (f := .cls "Book") rfl))
  have D_Book_all_words : MetT K (He.ga K "Book") "all_words" "Book.all_words" (inClass (top 51) 3) (He.codeOf K ("Book", some "all_words")) := metT_of (c.def_ 46 (d := de ("Book", some "all_words") "all_words" "Book.all_words" (inClass (top 51) 3) []) rfl) (He.meth_ok (c.fact 103 (f := .meth "Book" "all_words") rfl)) (He.cls_ok (c.fact 87 (f := .cls "Book") rfl))
  have D_Book_says : MetT K (He.ga K "Book") "says" "Book.says" (inClass (top 51) 4) (He.codeOf K ("Book", some "says")) := metT_of (c.def_ 47 (d := de ("Book", some "says") "says" "Book.says" (inClass (top 51) 4) []) rfl) (He.meth_ok (c.fact 104 (f := .meth "Book" "says") rfl)) (He.cls_ok (c.fact 87 (f := .cls "Book") rfl))
  have D__law_refused : DefT K mg "_law_refused" (top 67) (He.codeOf K ("_law_refused", none)) := defT_of (c.def_ 48 (d := dd "_law_refused" (top 67)) rfl) (He.glo_ok X G (c.fact 33 (f := .glo "_law_refused") rfl))
  have D__law_each : DefT K mg "_law_each" (top 68) (He.codeOf K ("_law_each", none)) := defT_of (c.def_ 49 (d := dd "_law_each" (top 68)) rfl) (He.glo_ok X G (c.fact 34 (f := .glo "_law_each") rfl))
  have D__law_no_numbers : DefT K mg "_law_no_numbers" (top 69) (He.codeOf K ("_law_no_numbers", none)) := defT_of (c.def_ 50 (d := dd "_law_no_numbers" (top 69)) rfl) (He.glo_ok X G (c.fact 35 (f := .glo "_law_no_numbers") rfl))
  have D__law_no_words : DefT K mg "_law_no_words" (top 70) (He.codeOf K ("_law_no_words", none)) := defT_of (c.def_ 51 (d := dd "_law_no_words" (top 70)) rfl) (He.glo_ok X G (c.fact 36 (f := .glo "_law_no_words") rfl))
  have D__law_no_meetings : DefT K mg "_law_no_meetings" (top 71) (He.codeOf K ("_law_no_meetings", none)) := defT_of (c.def_ 52 (d := dd "_law_no_meetings" (top 71)) rfl) (He.glo_ok X G (c.fact 37 (f := .glo "_law_no_meetings") rfl))
  have D__law_tables_right : DefT K mg "_law_tables_right" (top 72) (He.codeOf K ("_law_tables_right", none)) := defT_of (c.def_ 53 (d := dd "_law_tables_right" (top 72)) rfl) (He.glo_ok X G (c.fact 38 (f := .glo "_law_tables_right") rfl))
  have D__law_book_right : DefT K mg "_law_book_right" (top 73) (He.codeOf K ("_law_book_right", none)) := defT_of (c.def_ 54 (d := dd "_law_book_right" (top 73)) rfl) (He.glo_ok X G (c.fact 39 (f := .glo "_law_book_right") rfl))
  have D_law : DefT K mg "law" (top 74) (He.codeOf K ("law", none)) := defT_of (c.def_ 55 (d := dd "law" (top 74)) rfl) (He.glo_ok X G (c.fact 40 (f := .glo "law") rfl))
  have n_At_hour : NoAttr K (He.ga K "At") "hour" := He.noat_ok (c.fact 66 (f := .noat "At" "hour") rfl)
  have n_Barred_rows : NoAttr K (He.ga K "Barred") "rows" := He.noat_ok (c.fact 69 (f := .noat "Barred" "rows") rfl)
  have n_Moved_hours : NoAttr K (He.ga K "Moved") "hours" := He.noat_ok (c.fact 72 (f := .noat "Moved" "hours") rfl)
  have n_Moved_prices : NoAttr K (He.ga K "Moved") "prices" := He.noat_ok (c.fact 73 (f := .noat "Moved" "prices") rfl)
  have n_Moved_rents : NoAttr K (He.ga K "Moved") "rents" := He.noat_ok (c.fact 74 (f := .noat "Moved" "rents") rfl)
  have n_Tight_meetings : NoAttr K (He.ga K "Tight") "meetings" := He.noat_ok (c.fact 77 (f := .noat "Tight" "meetings") rfl)
  have n_Tight_hours : NoAttr K (He.ga K "Tight") "hours" := He.noat_ok (c.fact 78 (f := .noat "Tight" "hours") rfl)
  have n_Seats_jumps : NoAttr K (He.ga K "Seats") "jumps" := He.noat_ok (c.fact 81 (f := .noat "Seats" "jumps") rfl)
  have n_Seats_hours : NoAttr K (He.ga K "Seats") "hours" := He.noat_ok (c.fact 82 (f := .noat "Seats" "hours") rfl)
  have n_Seats_prices : NoAttr K (He.ga K "Seats") "prices" := He.noat_ok (c.fact 83 (f := .noat "Seats" "prices") rfl)
  have n_Seats_rents : NoAttr K (He.ga K "Seats") "rents" := He.noat_ok (c.fact 84 (f := .noat "Seats" "rents") rfl)
  have n_Seats_holders : NoAttr K (He.ga K "Seats") "holders" := He.noat_ok (c.fact 85 (f := .noat "Seats" "holders") rfl)
  have n_Book__hand : NoAttr K (He.ga K "Book") "_hand" := He.noat_ok (c.fact 88 (f := .noat "Book" "_hand") rfl)
  have n_Book__known : NoAttr K (He.ga K "Book") "_known" := He.noat_ok (c.fact 89 (f := .noat "Book" "_known") rfl)
  obtain ⟨x0, xr⟩ := He.ba c0.more
  obtain ⟨x1, xr⟩ := He.ba xr
  obtain ⟨x2, xr⟩ := He.ba xr
  obtain ⟨x3, xr⟩ := He.ba xr
  obtain ⟨x4, xr⟩ := He.ba xr
  obtain ⟨x5, xr⟩ := He.ba xr
  obtain ⟨x6, xr⟩ := He.ba xr
  obtain ⟨x7, xr⟩ := He.ba xr
  obtain ⟨x8, xr⟩ := He.ba xr
  obtain ⟨x9, xr⟩ := He.ba xr
  obtain ⟨x10, xr⟩ := He.ba xr
  obtain ⟨x11, xr⟩ := He.ba xr
  obtain ⟨x12, xr⟩ := He.ba xr
  obtain ⟨x13, xr⟩ := He.ba xr
  obtain ⟨x14, xr⟩ := He.ba xr
  obtain ⟨x15, xr⟩ := He.ba xr
  obtain ⟨x16, xr⟩ := He.ba xr
  obtain ⟨x17, xr⟩ := He.ba xr
  obtain ⟨x18, xr⟩ := He.ba xr
  obtain ⟨x19, xr⟩ := He.ba xr
  obtain ⟨x20, xr⟩ := He.ba xr
  obtain ⟨x21, xr⟩ := He.ba xr
  obtain ⟨x22, xr⟩ := He.ba xr
  obtain ⟨x23, xr⟩ := He.ba xr
  obtain ⟨x24, xr⟩ := He.ba xr
  obtain ⟨x25, xr⟩ := He.ba xr
  have T : Tx K mg (He.ga K "ANSWERS") := ⟨He.free_ok X G (c.fact 41 (f := .free "ValueError") rfl), He.free_ok X G (c.fact 42 (f := .free "abs") rfl), He.free_ok X G (c.fact 43 (f := .free "all") rfl), He.free_ok X G (c.fact 44 (f := .free "bool") rfl), He.free_ok X G (c.fact 45 (f := .free "int") rfl), He.free_ok X G (c.fact 46 (f := .free "isinstance") rfl), He.free_ok X G (c.fact 47 (f := .free "len") rfl), He.free_ok X G (c.fact 48 (f := .free "list") rfl), He.free_ok X G (c.fact 49 (f := .free "min") rfl), He.free_ok X G (c.fact 50 (f := .free "range") rfl), He.free_ok X G (c.fact 51 (f := .free "sorted") rfl), He.free_ok X G (c.fact 52 (f := .free "str") rfl), He.free_ok X G (c.fact 53 (f := .free "tuple") rfl), He.free_ok X G (c.fact 54 (f := .free "zip") rfl), intE (He.int_ok X G (c.fact 55 (f := .int "MOST_WORDS" 80) rfl)), intE (He.int_ok X G (c.fact 56 (f := .int "MOST_MEETINGS" 6) rfl)), intE (He.int_ok X G (c.fact 57 (f := .int "COUNTS" 99) rfl)), intE (He.int_ok X G (c.fact 58 (f := .int "HANDS" 4) rfl)), intE (He.int_ok X G (c.fact 59 (f := .int "PEOPLE" 8) rfl)), intE (He.int_ok X G (c.fact 60 (f := .int "HOURS" 12) rfl)), ⟨_, He.glo_ok X G (c.fact 61 (f := .glo "ANSWERS") rfl), rfl⟩, fun H => He.tupB_ok x0 H, ⟨_, He.glo_ok X G (c.fact 62 (f := .glo "YES") rfl), rfl⟩, fun H => He.tupB_ok x1 H, ⟨_, He.glo_ok X G (c.fact 63 (f := .glo "YES_OR_MAYBE") rfl), rfl⟩, fun H => He.tupB_ok x2 H⟩
  have e_At : Own K mg "At" (He.ga K "At") := own_of (He.glo_ok X G (c.fact 64 (f := .glo "At") rfl)) (He.cls_ok (c.fact 65 (f := .cls "At") rfl)) x3
  have e_Barred : Own K mg "Barred" (He.ga K "Barred") := own_of (He.glo_ok X G (c.fact 67 (f := .glo "Barred") rfl)) (He.cls_ok (c.fact 68 (f := .cls "Barred") rfl)) x4
  have e_Moved : Own K mg "Moved" (He.ga K "Moved") := own_of (He.glo_ok X G (c.fact 70 (f := .glo "Moved") rfl)) (He.cls_ok (c.fact 71 (f := .cls "Moved") rfl)) x5
  have e_Tight : Own K mg "Tight" (He.ga K "Tight") := own_of (He.glo_ok X G (c.fact 75 (f := .glo "Tight") rfl)) (He.cls_ok (c.fact 76 (f := .cls "Tight") rfl)) x6
  have e_Seats : Own K mg "Seats" (He.ga K "Seats") := own_of (He.glo_ok X G (c.fact 79 (f := .glo "Seats") rfl)) (He.cls_ok (c.fact 80 (f := .cls "Seats") rfl)) x7
  have e_Book : Own K mg "Book" (He.ga K "Book") := own_of (He.glo_ok X G (c.fact 86 (f := .glo "Book") rfl)) (He.cls_ok (c.fact 87 (f := .cls "Book") rfl)) x8
  have e_HourError : Exn K mg "HourError" (He.ga K "HourError") := exn_of X G (c.fact 105 (f := .glo "HourError") rfl) (c.fact 106 (f := .exc "HourError") rfl) x9
  have e_BadWords : Exn K mg "BadWords" (He.ga K "BadWords") := exn_of X G (c.fact 107 (f := .glo "BadWords") rfl) (c.fact 108 (f := .exc "BadWords") rfl) x10
  have e_BadMeeting : Exn K mg "BadMeeting" (He.ga K "BadMeeting") := exn_of X G (c.fact 109 (f := .glo "BadMeeting") rfl) (c.fact 110 (f := .exc "BadMeeting") rfl) x11
  have e_BadOlds : Exn K mg "BadOlds" (He.ga K "BadOlds") := exn_of X G (c.fact 111 (f := .glo "BadOlds") rfl) (c.fact 112 (f := .exc "BadOlds") rfl) x12
  have e_BadHand : Exn K mg "BadHand" (He.ga K "BadHand") := exn_of X G (c.fact 113 (f := .glo "BadHand") rfl) (c.fact 114 (f := .exc "BadHand") rfl) x13
  have e_BadPerson : Exn K mg "BadPerson" (He.ga K "BadPerson") := exn_of X G (c.fact 115 (f := .glo "BadPerson") rfl) (c.fact 116 (f := .exc "BadPerson") rfl) x14
  have e_BadHour : Exn K mg "BadHour" (He.ga K "BadHour") := exn_of X G (c.fact 117 (f := .glo "BadHour") rfl) (c.fact 118 (f := .exc "BadHour") rfl) x15
  have e_BadWord : Exn K mg "BadWord" (He.ga K "BadWord") := exn_of X G (c.fact 119 (f := .glo "BadWord") rfl) (c.fact 120 (f := .exc "BadWord") rfl) x16
  have e_Unlike : Exn K mg "Unlike" (He.ga K "Unlike") := exn_of X G (c.fact 121 (f := .glo "Unlike") rfl) (c.fact 122 (f := .exc "Unlike") rfl) x17
  have e_TooMany : Exn K mg "TooMany" (He.ga K "TooMany") := exn_of X G (c.fact 123 (f := .glo "TooMany") rfl) (c.fact 124 (f := .exc "TooMany") rfl) x18
  have m_BadWords_HourError := He.exm_ok (c.fact 125 (f := .exm "BadWords" "HourError" true) rfl)
  have m_BadMeeting_HourError := He.exm_ok (c.fact 126 (f := .exm "BadMeeting" "HourError" true) rfl)
  have m_BadOlds_HourError := He.exm_ok (c.fact 127 (f := .exm "BadOlds" "HourError" true) rfl)
  have m_BadHand_HourError := He.exm_ok (c.fact 128 (f := .exm "BadHand" "HourError" true) rfl)
  have m_BadPerson_HourError := He.exm_ok (c.fact 129 (f := .exm "BadPerson" "HourError" true) rfl)
  have m_BadHour_HourError := He.exm_ok (c.fact 130 (f := .exm "BadHour" "HourError" true) rfl)
  have m_BadWord_HourError := He.exm_ok (c.fact 131 (f := .exm "BadWord" "HourError" true) rfl)
  have m_Unlike_HourError := He.exm_ok (c.fact 132 (f := .exm "Unlike" "HourError" true) rfl)
  have m_TooMany_HourError := He.exm_ok (c.fact 133 (f := .exm "TooMany" "HourError" true) rfl)
  have n9 := x19
  have v9 := x20
  have d12 := x21
  have dm1 := x22
  have dm2 := x23
  have dc1 := x24
  have dc2 := x25
  obtain ⟨f', fd, F, hm, hc⟩ := D_law.ex
  have e := hfa.symm.trans hm
  cases e
  have b := FunD.bindsA (ps := ["_law_script"]) F fun _ _ _ _ _ _ us hl => match us, hl with | [_], _ => rfl
  refine ⟨fd, fun s v => b s [v] rfl, fun base _ _ t_is_meeting t_can_be t__law_tables_right t__law_book_right => ?_⟩
  have N9 : Nine K (He.ga K "HourError") [(He.ga K "BadWords"), (He.ga K "BadMeeting"), (He.ga K "BadOlds"), (He.ga K "BadHand"), (He.ga K "BadPerson"), (He.ga K "BadHour"), (He.ga K "BadWord"), (He.ga K "Unlike"), (He.ga K "TooMany")] := nine_of ["BadWords", "BadMeeting", "BadOlds", "BadHand", "BadPerson", "BadHour", "BadWord", "Unlike", "TooMany"] n9 v9 (fun x hx => by
      simp only [List.mem_cons, List.not_mem_nil, or_false] at hx
      rcases hx with rfl | rfl | rfl | rfl | rfl | rfl | rfl | rfl | rfl
      · exact m_BadWords_HourError
      · exact m_BadMeeting_HourError
      · exact m_BadOlds_HourError
      · exact m_BadHand_HourError
      · exact m_BadPerson_HourError
      · exact m_BadHour_HourError
      · exact m_BadWord_HourError
      · exact m_Unlike_HourError
      · exact m_TooMany_HourError) (fun x hx => by
      simp only [List.mem_cons, List.not_mem_nil, or_false] at hx
      rcases hx with rfl | rfl | rfl | rfl | rfl | rfl | rfl | rfl | rfl
      · exact e_BadWords.c
      · exact e_BadMeeting.c
      · exact e_BadOlds.c
      · exact e_BadHand.c
      · exact e_BadPerson.c
      · exact e_BadHour.c
      · exact e_BadWord.c
      · exact e_Unlike.c
      · exact e_TooMany.c)
  have pack : ∀ B : Heap, TabB B mg (He.cT K ("is_meeting", none)).1 (He.cT K ("is_meeting", none)).2 → TabB B mg (He.cT K ("can_be", none)).1 (He.cT K ("can_be", none)).2 → Pack P w K mg [(He.ga K "BadWords"), (He.ga K "BadMeeting"), (He.ga K "BadOlds"), (He.ga K "BadHand"), (He.ga K "BadPerson"), (He.ga K "BadHour"), (He.ga K "BadWord"), (He.ga K "Unlike"), (He.ga K "TooMany")] (He.ga K "BadWords") (He.ga K "Unlike") (He.ga K "BadMeeting") (He.ga K "BadOlds") (He.ga K "TooMany") (He.cT K ("is_meeting", none)).2 (He.ga K "Book") (He.ga K "BadHand") (He.ga K "BadPerson") (He.ga K "BadHour") (He.ga K "BadWord") B := fun base t_is_meeting t_can_be => by
    have k_is_whole := ok_is_whole (P := P) (w := w) (base := base) D_is_whole T
    have k_is_number := ok_is_number D_is_number k_is_whole
    have k_is_hand := ok_is_hand D_is_hand T k_is_number
    have k_is_person := ok_is_person D_is_person T k_is_number
    have k_is_hour := ok_is_hour D_is_hour T k_is_number
    have k_is_answer := ok_is_answer (P := P) (w := w) (base := base) D_is_answer T
    have k_is_word := ok_is_word D_is_word T k_is_number k_is_hand k_is_person k_is_hour k_is_answer
    have k_copied_words := ok_copied_words D_copied_words T e_BadWords k_is_word
    have k_each_once := ok_each_once (P := P) (w := w) (base := base) D_each_once T e_Unlike
    have k_checked_words := checked0 (ok_checked_words D_checked_words k_copied_words k_each_once)
    have k_is_people := ok_is_people D_is_people T k_is_number
    have k_is_meeting := ok_is_meeting D_is_meeting t_is_meeting T k_is_number k_is_people
    have k_check_meeting := ok_check_meeting D_check_meeting k_is_meeting
    have k_answers_that_count := ok_answers_that_count (P := P) (w := w) (base := base) D_answers_that_count T
    have k_answer_of := ok_answer_of (P := P) (w := w) (K := K) (base := base) D_answer_of
    have k_can_be := ok_can_be D_can_be t_can_be T k_answer_of
    have k_hours_of2 := ok_hours_of2 D_hours_of T k_can_be
    have k_checked_wordsX := ok_checked_words D_checked_words k_copied_words k_each_once
    have k_joinedX := ok_joined D_joined T e_TooMany k_checked_wordsX k_each_once
    have k_check_hand := ok_check_hand D_check_hand k_is_hand
    have k_check_person := ok_check_person D_check_person k_is_person
    have k_check_hour := ok_check_hour D_check_hour k_is_hour
    have k_check_answer := ok_check_answer D_check_answer k_is_answer
    have k_Book := ok_Book_init D_Book_init e_Book n_Book__hand n_Book__known k_check_hand
    have k_Book_answerX := ok_answer D_Book_answer T e_Book n_Book__hand n_Book__known e_TooMany k_check_person k_check_hour k_check_answer
    have k_Book_hearX := ok_hear D_Book_hear T e_Book n_Book__known k_joinedX
    have k_Book_all_words := ok_all_words (P := P) (w := w) (base := base) (mg := mg) D_Book_all_words T e_Book n_Book__known
    have k_Book_says := ok_says D_Book_says T e_Book n_Book__known k_check_person k_check_hour k_answers_that_count k_answer_of
    have j_is_whole := okT_is_whole (P := P) (w := w) (base := base) D_is_whole T
    have j_is_number := okT_is_number D_is_number j_is_whole
    have j_is_hand := okT_is_hand D_is_hand T j_is_number
    have j_is_person := okT_is_person D_is_person T j_is_number
    have j_is_hour := okT_is_hour D_is_hour T j_is_number
    have j_is_answer := okT_is_answer (P := P) (w := w) (base := base) D_is_answer T
    have j_is_word := okT_is_word D_is_word T j_is_number j_is_hand j_is_person j_is_hour j_is_answer
    have j_copied_words := okT_copied_words D_copied_words T e_BadWords j_is_word
    have j_checked_words := okT_checked_words D_checked_words k_copied_words j_copied_words k_each_once
    have j_joined := okT_joined D_joined T e_TooMany k_checked_words j_checked_words k_each_once
    have j_is_people := okT_is_people D_is_people T j_is_number
    have j_is_meeting := okT_is_meeting D_is_meeting t_is_meeting T j_is_number j_is_people
    have j_check_meeting := okT_check_meeting D_check_meeting T e_BadMeeting j_is_meeting
    have j_check_meetings := okT_check_meetings D_check_meetings T e_BadMeeting j_check_meeting
    have j_check_olds := okT_check_olds D_check_olds T e_BadOlds j_is_hour
    have j_check_hand := okT_check_hand D_check_hand e_BadHand j_is_hand
    have j_check_person := okT_check_person D_check_person e_BadPerson j_is_person
    have j_check_hour := okT_check_hour D_check_hour e_BadHour j_is_hour
    have j_check_answer := okT_check_answer D_check_answer e_BadWord j_is_answer
    have j_Book := okT_Book_init D_Book_init e_Book j_check_hand
    have j_answer := okT_answer D_Book_answer T e_Book j_check_person j_check_hour j_check_answer
    have j_says := okT_says D_Book_says T e_Book j_check_person j_check_hour
    have j_hear := okT_hear D_Book_hear T e_Book n_Book__known j_joined
    have j_hours_by := okT_hours_by D_hours_by T k_checked_words j_checked_words k_answers_that_count j_check_meeting
    have j_hours := okT_hours D_hours T j_hours_by
    have j_hours_maybe := okT_hours_maybe D_hours_maybe T j_hours_by
    have j_first := okT_first D_first T k_checked_words j_checked_words k_answers_that_count j_check_meeting
    have j_table := okT_table D_table T k_checked_words j_checked_words j_check_meetings j_check_olds
    have l_refused := ok_law_refused (P := P) (w := w) (base := base) D__law_refused T e_HourError e_BadWords e_BadMeeting e_BadOlds e_BadHand e_BadPerson e_BadHour e_BadWord e_Unlike e_TooMany N9
    have l_each := ok_law_each D__law_each T l_refused
    have l_nums := ok_law_no_numbers (P := P) (w := w) (base := base) D__law_no_numbers
    have l_words := ok_law_no_words D__law_no_words T l_nums
    have l_meets := ok_law_no_meetings D__law_no_meetings T l_nums
    have b_Book := ok_Book_initN D_Book_init e_Book n_Book__hand n_Book__known k_check_hand
    have b_all := ok_all_wordsN (P := P) (w := w) (base := base) (mg := mg) D_Book_all_words T e_Book n_Book__known
    exact ⟨l_each, j_joined, j_hours, j_hours_maybe, j_first, j_table, j_hear, j_answer, j_says, j_Book, k_Book_answerX, answer0 k_Book_answerX, hear0 k_Book_hearX, l_nums, l_words, l_meets, b_Book, b_all⟩
  have pk : ∀ B, Ext base B → Pack P w K mg [(He.ga K "BadWords"), (He.ga K "BadMeeting"), (He.ga K "BadOlds"), (He.ga K "BadHand"), (He.ga K "BadPerson"), (He.ga K "BadHour"), (He.ga K "BadWord"), (He.ga K "Unlike"), (He.ga K "TooMany")] (He.ga K "BadWords") (He.ga K "Unlike") (He.ga K "BadMeeting") (He.ga K "BadOlds") (He.ga K "TooMany") (He.cT K ("is_meeting", none)).2 (He.ga K "Book") (He.ga K "BadHand") (He.ga K "BadPerson") (He.ga K "BadHour") (He.ga K "BadWord") B := fun B e => pack B (tabE t_is_meeting e) (tabE t_can_be e)
  have kt : ∀ B, Ext base B → C8.Cal P w K mg B 13 "_law_tables_right" (sp_tables (He.cT K ("_law_tables_right", none)).2 (He.cT K ("is_meeting", none)).2) [] := fun B e => ok_law_tables_right (cs := [(He.ga K "BadWords"), (He.ga K "BadMeeting"), (He.ga K "BadOlds"), (He.ga K "BadHand"), (He.ga K "BadPerson"), (He.ga K "BadHour"), (He.ga K "BadWord"), (He.ga K "Unlike"), (He.ga K "TooMany")]) (base := B) D__law_tables_right T (tabE t__law_tables_right e) (pk B e).nu (pk B e).wo_ (pk B e).me (pk B e).bo (pk B e).al (fun B' e' => (pk B' (e.trans e')).fj) (fun B' e' => (pk B' (e.trans e')).fh) (fun B' e' => (pk B' (e.trans e')).fm) (fun B' e' => (pk B' (e.trans e')).ff) (fun B' e' => (pk B' (e.trans e')).ft) (fun B' e' => (pk B' (e.trans e')).fe) rfl rfl rfl rfl (fun B' e' => (pk B' (e.trans e')).each)
  have kb : ∀ B, Ext base B → C8.Cal P w K mg B 13 "_law_book_right" (sp_books (He.cT K ("_law_book_right", none)).2) [] := fun B e => ok_law_book_right (cs := [(He.ga K "BadWords"), (He.ga K "BadMeeting"), (He.ga K "BadOlds"), (He.ga K "BadHand"), (He.ga K "BadPerson"), (He.ga K "BadHour"), (He.ga K "BadWord"), (He.ga K "Unlike"), (He.ga K "TooMany")]) (base := B) D__law_book_right T (tabE t__law_book_right e) (pk B e).nu (pk B e).bo (pk B e).al (fun B' e' => (pk B' (e.trans e')).an) (fun B' e' => (pk B' (e.trans e')).he) (fun B' e' => (pk B' (e.trans e')).fA) (fun B' e' => (pk B' (e.trans e')).fS) (fun B' e' => (pk B' (e.trans e')).fD) (fun B' e' => (pk B' (e.trans e')).fF) rfl rfl rfl rfl rfl (fun B' e' => (pk B' (e.trans e')).each)
  have k_is_whole := ok_is_whole (P := P) (w := w) (base := base) D_is_whole T
  have k_is_number := ok_is_number D_is_number k_is_whole
  have k_is_hand := ok_is_hand D_is_hand T k_is_number
  have k_is_person := ok_is_person D_is_person T k_is_number
  have k_is_hour := ok_is_hour D_is_hour T k_is_number
  have k_is_answer := ok_is_answer (P := P) (w := w) (base := base) D_is_answer T
  have k_is_word := ok_is_word D_is_word T k_is_number k_is_hand k_is_person k_is_hour k_is_answer
  have k_copied_words := ok_copied_words D_copied_words T e_BadWords k_is_word
  have k_each_once := ok_each_once (P := P) (w := w) (base := base) D_each_once T e_Unlike
  have k_checked_words := checked0 (ok_checked_words D_checked_words k_copied_words k_each_once)
  have k_is_people := ok_is_people D_is_people T k_is_number
  have k_is_meeting := ok_is_meeting D_is_meeting t_is_meeting T k_is_number k_is_people
  have k_check_meeting := ok_check_meeting D_check_meeting k_is_meeting
  have k_answers_that_count := ok_answers_that_count (P := P) (w := w) (base := base) D_answers_that_count T
  have k_answer_of := ok_answer_of (P := P) (w := w) (K := K) (base := base) D_answer_of
  have k_can_be := ok_can_be D_can_be t_can_be T k_answer_of
  have k_hours_of2 := ok_hours_of2 D_hours_of T k_can_be
  have k_copied_int := ok_copied_int (P := P) (w := w) (base := base) D_copied T
  have k_copied_els := ok_copied_els (P := P) (w := w) (base := base) D_copied T
  have k_At := ok_At_init D_At_init e_At n_At_hour k_copied_int
  have k_Barred := ok_Barred_init D_Barred_init e_Barred n_Barred_rows k_copied_els
  have k_not_coming := ok_not_coming D_not_coming k_answer_of
  have k_first := ok_first D_first T T.h_YES k_checked_words k_check_meeting k_answers_that_count k_hours_of2 k_not_coming k_At k_Barred
  have k_jump := ok_jump (P := P) (w := w) (base := base) D_jump T
  have k_jumps_of := ok_jumps_of D_jumps_of T T.h_YES k_jump k_answers_that_count k_hours_of2
  have k_Seats := ok_Seats_init (P := P) (w := w) (base := base) D_Seats_init T e_Seats n_Seats_jumps n_Seats_hours n_Seats_prices n_Seats_rents n_Seats_holders
  have k_Seats_gap := ok_gap (P := P) (w := w) (base := base) (mg := mg) D_Seats_gap e_Seats n_Seats_jumps n_Seats_prices n_Seats_rents
  have k_Seats_ways := ok_ways D_Seats_ways e_Seats n_Seats_jumps k_Seats_gap
  have k_Seats_raise := ok_raise (P := P) (w := w) (base := base) (mg := mg) D_Seats_raise_prices e_Seats n_Seats_prices n_Seats_rents
  have k_Seats_hand := ok_hand (P := P) (w := w) (base := base) (mg := mg) D_Seats_hand_on e_Seats n_Seats_hours n_Seats_holders
  have k_Tight := ok_Tight_init D_Tight_init e_Tight n_Tight_meetings n_Tight_hours k_copied_els
  have k_Seats_seat := ok_seat D_Seats_seat T e_Seats n_Seats_holders k_Tight k_Seats_ways k_Seats_raise k_Seats_hand
  have k_Moved := ok_Moved_init D_Moved_init e_Moved n_Moved_hours n_Moved_prices n_Moved_rents k_copied_els
  have k_check_meetings := ok_check_meetings D_check_meetings T k_check_meeting
  have k_check_olds := ok_check_olds D_check_olds T k_is_hour
  have k_table := ok_table D_table T e_Seats n_Seats_hours n_Seats_prices n_Seats_rents k_checked_words k_check_meetings k_check_olds k_jumps_of k_Seats k_Seats_seat k_Moved
  exact fnok_of F hc sc_law (fun vs H Q E h => by obtain ⟨a, ns, rfl, _⟩ := h; rfl) fun A outer s H vs Q E hr h => ok_law T e_Barred e_Tight n_Barred_rows n_Tight_hours (farB_ok d12) (farB_ok dm1) (farB_ok dm2) (farB_ok dc1) (farB_ok dc2) kt kb k_first k_table hr h
end CH
end

set_option Elab.async false
set_option linter.all false
open PySem PySem.W PySem.Calls PyProof.Rows
set_option maxRecDepth 100000 in
set_option maxHeartbeats 0 in
theorem PySem.Challenge.cw_commonhour_k09_refused_holds : PySem.Challenge.rw_commonhour_k09_refused.Holds := by
  w_on; o_law
  refine HandSHeadRun.head_any (r := OpenLaw.row PySem.Challenge.rw_commonhour_k09_refused) (q := view (OpenLaw.row PySem.Challenge.rw_commonhour_k09_refused).prog [74]) (H := CH.hk) (ob := CH.ob) (M := 12000) (loose := CH.loose) (d := HandSHeadRun.topDef (OpenLaw.row PySem.Challenge.rw_commonhour_k09_refused).prog 74) (kwd := []) CH.ob_eq
    (by kernel_rfl) (fun s => by kernel_rfl) CH.run (by kernel_rfl) (by kernel_rfl) (by kernel_rfl) (by rfl) (by first | assumption | decide +kernel) (by decide +kernel) ⟨rfl, rfl, rfl, rfl, rfl, by decide +kernel⟩ ?hw ?hc
  case hw => w_witness2
  case hc =>
    refine LamX.walk_ofTsE (l := PySem.Challenge.rw_commonhour_k09_refused) (n := 63) (k := 14) (x := "_law_script") (CX := fun _ => L2.CX0) rfl (by decide) (by kernel_rfl) ⟨rfl, by decide, by decide⟩ ?F (fun _ _ _ _ _ z => z)
    intro w mg fa h Y G hmg0
    obtain ⟨K, KX, c⟩ := Y
    have hmg : mg ("law" : PySem.Str) = some (.ref fa) := by
      have e : (HandSHeadRun.topDef (OpenLaw.row PySem.Challenge.rw_commonhour_k09_refused).prog 74).name = ("law" : PySem.Str) := by kernel_rfl
      rw [← e]
      exact hmg0
    obtain ⟨fd, hb, hF⟩ := CH.facts (P := (PySem.Challenge.rw_commonhour_k09_refused).prog) (w := w) KX G hmg c
    refine ⟨K, KX, fd, CH.tf.map (He.cT K), CH.sp_law K (He.cT K ("is_meeting", none)).2 (He.cT K ("can_be", none)).2 (He.cT K ("_law_tables_right", none)).2 (He.cT K ("_law_book_right", none)).2, ?_, ?_, ?_, hb, ?_, ?_⟩
    · intro p hp
      obtain ⟨x, hx, rfl⟩ := List.mem_map.mp hp
      exact c.empty _ hx
    · intro p hp
      obtain ⟨x, hx, rfl⟩ := List.mem_map.mp hp
      exact c.out _ hx
    · intro p hp
      obtain ⟨x, hx, rfl⟩ := List.mem_map.mp hp
      exact PySem.W.codeHd_of_K KX (c.hd _ hx)
    · intro H a ns hl hbits hT hS
      exact ⟨a, ns, rfl, hS, hl, fun z hz => CH.bits_of (hbits z hz), ⟨#[], (hT _ (List.mem_map.mpr ⟨_, (.head _), rfl⟩)), True.intro⟩, ⟨#[], (hT _ (List.mem_map.mpr ⟨_, (.tail _ (.head _)), rfl⟩)), True.intro⟩, (hT _ (List.mem_map.mpr ⟨_, (.tail _ (.tail _ (.head _))), rfl⟩)), (hT _ (List.mem_map.mpr ⟨_, (.tail _ (.tail _ (.tail _ (.head _)))), rfl⟩)), fun _ => rfl⟩
    · exact fun base hB hN hT => hF base hB hN ⟨(hT _ (List.mem_map.mpr ⟨_, (.head _), rfl⟩)).code, (hT _ (List.mem_map.mpr ⟨_, (.head _), rfl⟩)).bm, (hT _ (List.mem_map.mpr ⟨_, (.head _), rfl⟩)).gP⟩ ⟨(hT _ (List.mem_map.mpr ⟨_, (.tail _ (.head _)), rfl⟩)).code, (hT _ (List.mem_map.mpr ⟨_, (.tail _ (.head _)), rfl⟩)).bm, (hT _ (List.mem_map.mpr ⟨_, (.tail _ (.head _)), rfl⟩)).gP⟩ ⟨(hT _ (List.mem_map.mpr ⟨_, (.tail _ (.tail _ (.head _))), rfl⟩)).code, (hT _ (List.mem_map.mpr ⟨_, (.tail _ (.tail _ (.head _))), rfl⟩)).bm, (hT _ (List.mem_map.mpr ⟨_, (.tail _ (.tail _ (.head _))), rfl⟩)).gP⟩ ⟨(hT _ (List.mem_map.mpr ⟨_, (.tail _ (.tail _ (.tail _ (.head _)))), rfl⟩)).code, (hT _ (List.mem_map.mpr ⟨_, (.tail _ (.tail _ (.tail _ (.head _)))), rfl⟩)).bm, (hT _ (List.mem_map.mpr ⟨_, (.tail _ (.tail _ (.tail _ (.head _)))), rfl⟩)).gP⟩
