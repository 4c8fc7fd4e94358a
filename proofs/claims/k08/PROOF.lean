import PyProof.Rows.All
import Wide.All
import OpenK.AllK
import Wide.FinOn
import KE.KDictSum
import KE.KDictCopyH
import PyProof.DictMoreH
import HandS.ForMost
import HandS.SortInts
import HandS.NamedTupSort
import HandS.DictTup
import HandS.SetKeys
import HandS.Wide
import HandS.ExcValue
import HandS.AnyAll
import HandS.Codes
import HandS.EndTab
import HandS.IsInst
import HandS.TupLe
import HandS.Conv
import HandS.Flow
import HandS.Style
import HandS.HeadHook4
import HandS.HeadWalk
import HandS.Head2
import HandS.Exc
import HandS.WordsExc
import HandS.ExcOwn
import HandS.ExcIs
import HandS.TryOnly
import HandS.ExcCtx
import HandS.HotCalls
import HandS.Zip
import HandS.HeadHook1
import HandS.HeadHook2
import KE.KNest
import KE.KNestM
import KE.KStateDown
import HandS.Head0
import HandS.Head1
import HandS.HeadEnd
import HandS.HeadHook3
import KE.DatumOrd
import PyProof.Rows.RowBridgeK
import HandS.DictComp
import HandS.Set
import HandS.SetFor
import HandS.Strs
import HandS.Dict
import KE.KDictDisplayH
import KE.KEqDict
import HandS.Deep
import KE.IntBitsLaws
import PySem.Challenge.RW_commonhour_k08_whole_books
section
set_option Elab.async false
set_option linter.all false
set_option maxRecDepth 100000
set_option maxHeartbeats 4000000
/-! sorted of tuples: whole numbers, then one text -/
namespace CH
open PySem PySem.Spec PyProof.Rows L2

def strInts (a : Str) : List Int := (a.cps.toList : List Nat).map Int.ofNat
theorem lexLt_nat : ∀ xs ys : List Nat, HT.lexLt (xs.map Int.ofNat) (ys.map Int.ofNat) = decide (xs < ys)
  | [], [] => by
    rw [List.map_nil, HT.lexLt_nil_nil]
    exact (decide_eq_false (by simp)).symm
  | [], y :: ys => by
    rw [List.map_nil, List.map_cons, HT.lexLt_nil_cons]
    exact (decide_eq_true (by simp)).symm
  | x :: xs, [] => by
    rw [List.map_nil, List.map_cons, HT.lexLt_cons_nil]
    exact (decide_eq_false (by simp)).symm
  | x :: xs, y :: ys => by
    rw [List.map_cons, List.map_cons, HT.lexLt_cons]
    by_cases e : x = y
    · subst e
      rw [if_pos rfl, lexLt_nat xs ys]
      refine decide_eq_decide.mpr ?_
      rw [List.cons_lt_cons_iff]
      constructor
      · intro h; exact .inr ⟨rfl, h⟩
      · intro h
        rcases h with h | h
        · exact absurd h (Nat.lt_irrefl _)
        · exact h.2
    · rw [if_neg (fun q => e (Int.ofNat.inj q))]
      refine decide_eq_decide.mpr ?_
      rw [List.cons_lt_cons_iff]
      constructor
      · intro h; exact .inl (by simpa using h)
      · intro h
        rcases h with h | h
        · simpa using h
        · exact absurd h.1 e

/-- v is a tuple of the ints ns, then the text z -/
def IsWd (h : Heap) (v : Value) (ns : List Int) (z : Str) : Prop := ∃ (a : Addr) (o : Obj) (its : List Value) (t : Tok) (n : Nat), v = .ref a ∧ h.get? a = some o ∧ o.cls = .type "tuple" ∧ o.data = .seq (its ++ [Value.str z t]).toArray n ∧ IntsAre its ns
theorem IsWd.keeps {h h' : Heap} {v : Value} {ns : List Int} {z : Str} (p : IsWd h v ns z) (k : ∀ b o, h.get? b = some o → o.cls = .type "tuple" → h'.get? b = some o) : IsWd h' v ns z := by
  obtain ⟨a, o, its, t, n, e, ho, hc, hd, hi⟩ := p
  exact ⟨a, o, its, t, n, e, k _ _ ho hc, hc, hd, hi⟩
def wkey (ns : List Int) (z : Str) : List Int := ns ++ strInts z
section
variable {prog : Program} {w : World} {A : Around} {E : Value → Shared → Prop} {s : Shared}
theorem wd_lex {z y : Str} {t u : Tok} {Q : Bool → Shared → Prop} : ∀ {its jts : List Value} {ns ms : List Int} {i : Nat}, IntsAre its ns → IntsAre jts ms → ns.length = ms.length → 0 < i + ns.length → Q (HT.lexLt (wkey ns z) (wkey ms y)) s →
    PySem.W.KatLex prog w A true false Q ((its ++ [Value.str z t]).zip (jts ++ [Value.str y u])) i s
  | _, _, _, _, i, .nil, .nil, _, h0, h => by
    show PySem.W.KatLex prog w A true false Q [(Value.str z t, Value.str y u)] i s
    have h : Q (HT.lexLt (strInts z) (strInts y)) s := h
    unfold strInts at h
    rw [lexLt_nat] at h
    refine PySem.W.kat_cons (wpAny_eqBool_str ?_)
    refine PySem.W.kat_go (fun e1 => ?_) (fun e1 => ?_)
    · have ex : z = y := by simpa using e1
      subst ex
      rw [decide_eq_false (List.lt_irrefl _)] at h
      exact PySem.W.kat_yes (PySem.W.kat_nil h)
    · have hi : (true && i == 0) = false := by
        have h1 : 0 < i := h0
        have : i ≠ 0 := by omega
        simp [this]
      have key := PySem.W.kat_one (prog := prog) (w := w) (A := A) (E := fun _ _ => False) (s := s) (Q := Q) (Value.str z t) (Value.str y u) (PyProof.Rows.lt_str h)
      rw [← hi] at key
      exact PySem.W.kat_no key
  | _, _, _, _, i, .cons a v hi, .cons b v2 hj, hl, h0, h => by
    rename_i its' ns' jts' ms'
    show PySem.W.KatLex prog w A true false Q ((Value.int a v, Value.int b v2) :: ((its' ++ [Value.str z t]).zip (jts' ++ [Value.str y u]))) i s
    have hl' : ns'.length = ms'.length := Nat.succ.inj hl
    have h : Q (HT.lexLt (a :: wkey ns' z) (b :: wkey ms' y)) s := h
    rw [HT.lexLt_cons] at h
    refine PySem.W.kat_cons (SeqAt.EqAt.int_int a v b v2 prog w _ _ ?_)
    refine PySem.W.kat_go (fun e1 => ?_) (fun e1 => ?_)
    · have ex : a = b := by simpa using e1
      rw [if_pos ex] at h
      exact PySem.W.kat_yes (wd_lex hi hj hl' (by omega) h)
    · have ex : ¬ a = b := by simpa using e1
      rw [if_neg ex] at h
      refine PySem.W.kat_no ?_
      cases hb : (true && i == 0) with
      | true => exact oneLt_int h
      | false => exact PySem.W.kat_one _ _ (PyProof.Rows.lt_int h)
theorem wd_cmp {vs : List Value} {k : Value → List Int × Str} {m : Nat} (hm0 : 0 < m) (hp : ∀ v ∈ vs, IsWd s.heap v (k v).1 (k v).2 ∧ (k v).1.length = m) : SrtO.Cmp prog w A s (tuples' true) (fun p => p.1 ∈ vs) (SrtO.lt2 fun v u => HT.lexLt (wkey (k v).1 (k v).2) (wkey (k u).1 (k u).2)) := by
  intro p q hm hm'
  obtain ⟨h1, l1⟩ := hp _ hm
  obtain ⟨h2, l2⟩ := hp _ hm'
  show wpAny (model prog w) A (keyLt' (tuples' true) p.1 q.1) (fun r s' => s' = s ∧ r = HT.lexLt (wkey (k p.1).1 (k p.1).2) (wkey (k q.1).1 (k q.1).2)) (fun _ _ => False) s
  generalize (k p.1).1 = x at h1 l1 ⊢
  generalize (k p.1).2 = y at h1 ⊢
  generalize (k q.1).1 = x' at h2 l2 ⊢
  generalize (k q.1).2 = y' at h2 ⊢
  obtain ⟨a, o, its, t, n, e, ho, hc, hd, hi⟩ := h1
  obtain ⟨a', o', its', t', n', e', ho', hc', hd', hi'⟩ := h2
  rw [e, e']
  have z1 : its.length = m := hi.length.trans l1
  have z2 : its'.length = m := hi'.length.trans l2
  refine PySem.W.kat_lt ho hd ho' hd' ?_
  have ef : decide ((its ++ [Value.str y t]).toArray.size < (its' ++ [Value.str y' t']).toArray.size) = false := decide_eq_false (by
    simp only [List.size_toArray, List.length_append, List.length_cons, List.length_nil]
    omega)
  rw [ef]
  exact wd_lex hi hi' (l1.trans l2.symm) (by omega) ⟨rfl, rfl⟩
theorem wd_firsts {h : Heap} {k : Value → List Int × Str} {m : Nat} (hm0 : 0 < m) : ∀ {vs : List Value}, (∀ v ∈ vs, IsWd h v (k v).1 (k v).2 ∧ (k v).1.length = m) → ∃ fs : List Value, PySem.W.KatTups h vs fs ∧ fs.length = vs.length ∧ ∀ f ∈ fs, ∃ x t, f = Value.int x t
  | [], _ => ⟨[], PySem.W.KatTups.nil, rfl, fun _ hm => by simp at hm⟩
  | v :: vs, hp => by
    obtain ⟨fs, h1, h2, h3⟩ := wd_firsts (k := k) hm0 (vs := vs) fun v' hm => hp v' (List.mem_cons_of_mem _ hm)
    obtain ⟨⟨a, o, its, t, n, e, ho, hc, hd, hi⟩, l⟩ := hp v (List.mem_cons_self ..)
    have z1 : its.length = m := hi.length.trans l
    generalize hk : (k v).1 = ns at hi l
    cases hi with
    | nil => simp at z1; omega
    | cons x tx hi' =>
      refine ⟨.int x tx :: fs, ?_, by rw [List.length_cons, List.length_cons, h2], fun f hm => ?_⟩
      · subst e
        exact PySem.W.KatTups.cons ho hc hd (by simp) h1
      · rcases List.mem_cons.mp hm with rfl | hm
        · exact ⟨x, tx, rfl⟩
        · exact h3 f hm
theorem wd_sortable {a : Addr} {vs : List Value} {k : Value → List Int × Str} {m : Nat} (hm0 : 0 < m) (h0 : 0 < vs.length) (hp : ∀ v ∈ vs, IsWd s.heap v (k v).1 (k v).2 ∧ (k v).1.length = m) (ha : ∀ o, s.heap.get? a = some o → o.cls ≠ .type "tuple") :
    SrtO.SortableO prog w A s a vs fun v u => HT.lexLt (wkey (k v).1 (k v).2) (wkey (k u).1 (k u).2) := by
  intro h' keep
  have hp' : ∀ v ∈ vs, IsWd h' v (k v).1 (k v).2 ∧ (k v).1.length = m := fun v hm => ⟨(hp v hm).1.keeps fun b o e c => keep b o (fun z => by subst z; exact ha o e c) e, (hp v hm).2⟩
  obtain ⟨fs, h1, h2, h3⟩ := wd_firsts hm0 hp'
  refine ⟨tuples' true, fun Q E hq => ?_, wd_cmp (s := { s with heap := h' }) hm0 hp'⟩
  refine PySem.W.kat_kind (s := { s with heap := h' }) (T := .type "int") h1 (by omega) (fun f hm => ?_) (by rfl) ?_
  · obtain ⟨x, t, rfl⟩ := h3 f hm
    exact PySem.W.Looks.now
  · have e : (Value.type "int" != Value.type "tuple") = true := by first | decide +kernel | rfl | decide
    rw [e]
    exact hq
end
end CH
end

section
set_option Elab.async false
set_option linter.all false
set_option maxRecDepth 100000
set_option maxHeartbeats 4000000
namespace CH
open PySem PySem.Spec PyProof.Rows L2
/-! ### sorted of words, by rules of the layer -/
def wdV (p : List Int × Str) : List V := p.1.map V.int ++ [.str p.2]
def adO : Value → Addr
  | .ref a => a
  | _ => 0
theorem vals_wd {h : Heap} {t : Addr} {p : List Int × Str} {its : List Value} (r : Vals (wdV p) its) (ht : IsTup h t its.toArray) : IsWd h (.ref t) p.1 p.2 := by
  obtain ⟨o, ho, hc, n, hd⟩ := ht
  obtain ⟨ns, z⟩ := p
  unfold wdV at r
  have split : ∀ (ns : List Int) (its : List Value), Vals (ns.map V.int ++ [V.str z]) its → ∃ js t, its = js ++ [Value.str z t] ∧ IntsAre js ns := by
    intro ns
    induction ns with
    | nil =>
      intro its r
      cases r with
      | cons r1 r2 =>
        cases r2
        obtain ⟨t, rfl⟩ := r1
        exact ⟨[], t, rfl, .nil⟩
    | cons n ns ih =>
      intro its r
      cases r with
      | cons r1 r2 =>
        obtain ⟨t, rfl⟩ := r1
        obtain ⟨js, t2, rfl, hi⟩ := ih _ r2
        exact ⟨Value.int n t :: js, t2, rfl, .cons n t hi⟩
  obtain ⟨js, tk, rfl, hi⟩ := split ns its r
  exact ⟨t, o, js, tk, n, rfl, ho, hc, hd, hi⟩
theorem refs_vals : ∀ {ts : List Addr} {us : List Value}, Vals (ts.map V.ref) us → us = ts.map Value.ref
  | [], us, r => by
    cases r
    rfl
  | t :: ts, us, r => by
    cases r with
    | cons h q =>
      cases h
      rw [List.map_cons, ← refs_vals q]
theorem vals_refs : ∀ ts : List Addr, Vals (ts.map V.ref) (ts.map Value.ref)
  | [] => .nil
  | _ :: ts => .cons rfl (vals_refs ts)
theorem ad_map (ts : List Addr) : (ts.map Value.ref).map adO = ts := by
  rw [List.map_map]
  exact (List.map_congr_left fun _ _ => rfl).trans (List.map_id ts)
theorem ref_map : ∀ {out : List Value}, (∀ v ∈ out, ∃ t, v = Value.ref t) → out = (out.map adO).map Value.ref
  | [], _ => rfl
  | v :: out, h => by
    obtain ⟨t, e⟩ := h v List.mem_cons_self
    subst e
    rw [List.map_cons, List.map_cons, ← ref_map fun u hu => h u (List.mem_cons_of_mem _ hu)] <;> rfl
abbrev keyOf (k : Addr → List Int × Str) (t : Addr) : List Int := wkey (k t).1 (k t).2
abbrev ltVk (k : Addr → List Int × Str) : Value → Value → Bool := fun v u => HT.lexLt (wkey (k (adO v)).1 (k (adO v)).2) (wkey (k (adO u)).1 (k (adO u)).2)
theorem ltVk_swo (k : Addr → List Int × Str) : SrtO.Swo (ltVk k) := NtL.swo_lexL fun v => wkey (k (adO v)).1 (k (adO v)).2
/-- what comes out of the sort -/
theorem wd_out {k : Addr → List Int × Str} {ts : List Addr} {out : List Value} (h1 : SrtO.Srtd (ltVk k) out) (h2 : SrtO.Stb (ltVk k) out (ts.map Value.ref)) :
    ∃ ts' : List Addr, out = ts'.map Value.ref ∧ ts'.Perm ts ∧ ts'.Pairwise fun x y => HT.lexLt (keyOf k y) (keyOf k x) = false := by
  have eo : out = (out.map adO).map Value.ref := ref_map fun u hm => by
    obtain ⟨t, _, e⟩ := List.mem_map.mp (h2.perm.mem_iff.mp hm)
    exact ⟨t, e.symm⟩
  refine ⟨out.map adO, eo, ?_, List.pairwise_map.mpr (h1.imp fun {x y} z => z)⟩
  have p1 := h2.perm.map adO
  rw [ad_map] at p1
  exact p1
/-- the words' places -/
def WdsAt (K : PySem.W.Frag) (H : Hp) (k : Addr → List Int × Str) (m : Nat) (ts : List Addr) : Prop := ∀ t ∈ ts, SqT K H t (wdV (k t)) ∧ (k t).1.length = m
/-- sorted(xs), xs a list of tuples: m ints, a text -/
def rSortWd (K : PySem.W.Frag) : List V → Hp → VK → Prop := fun vs H Q => ∃ (a : Addr) (ts : List Addr) (k : Addr → List Int × Str) (m : Nat), vs = [V.ref a] ∧ SqL K H a (ts.map V.ref) ∧ 0 < m ∧ WdsAt K H k m ts ∧
  ∀ (ts' : List Addr) (q : Addr), ts'.Perm ts → ts'.Pairwise (fun x y => HT.lexLt (keyOf k y) (keyOf k x) = false) → H q = none → Q (.ref q) (upd H q (.lst (ts'.map V.ref)))
/-- the view d.values() at p -/
def valsO (p d : Addr) : HO := .ext fun h => h.IsValuesView p d
theorem valsO_ok {P : Program} {w : World} {H : Hp} {h : Heap} {p d : Addr} (e : h.get? p = some { cls := .type "dict_values", data := .fields #[.ref d] }) : ObjOk P w H h p (valsO p d) :=
  ⟨⟨_, e, rfl, rfl⟩, ⟨_, e⟩, fun h1 h2 x k => let ⟨o, ho, r⟩ := x; ⟨o, k o ho, r⟩⟩
def rValuesT : V → List V → Hp → VK → Prop := fun x xs H Q => ∃ (a : Addr) (kvs : List (List L2.Key × V)), x = .ref a ∧ xs = [] ∧ H a = some (.dT kvs) ∧ ∀ p, H p = none → Q (.ref p) (upd H p (valsO p a))
/-- sorted(d.values()), the values such tuples -/
def rSortVals (K : PySem.W.Frag) : List V → Hp → VK → Prop := fun vs H Q => ∃ (p a : Addr) (kvs : List (List L2.Key × V)) (ts : List Addr) (k : Addr → List Int × Str) (m : Nat), vs = [V.ref p] ∧ H p = some (valsO p a) ∧ H a = some (.dT kvs) ∧ kvs.map (·.2) = ts.map V.ref ∧ 0 < m ∧ WdsAt K H k m ts ∧
  ∀ (ts' : List Addr) (q : Addr), ts'.Perm ts → ts'.Pairwise (fun x y => HT.lexLt (keyOf k y) (keyOf k x) = false) → H q = none → Q (.ref q) (upd H q (.lst (ts'.map V.ref)))
theorem objOk_there {P : Program} {w : World} {H : Hp} {h : Heap} {a : Addr} {o : HO} (x : ObjOk P w H h a o) : ∃ u, h.get? a = some u := by
  cases o with
  | lst xs => exact let ⟨_, _, _, _, e⟩ := x; ⟨_, e⟩
  | tup xs => exact let ⟨_, _, _, o, e, _⟩ := x; ⟨o, e⟩
  | dK kvs => exact let ⟨_, _, _, _, o, _, _, e, _⟩ := x; ⟨o, e⟩
  | dT kvs => exact let ⟨_, _, _, _, o, _, _, e, _⟩ := x; ⟨o, e⟩
  | set S n => exact let ⟨o, _, _, _, e, _⟩ := x; ⟨o, e⟩
  | ins C dx fs => exact let ⟨_, _, _, e, _⟩ := x; ⟨_, e⟩
  | own y => exact x
  | xd fs => exact let ⟨_, ⟨o, _, _, e, _⟩, _⟩ := x; ⟨o, e⟩
  | rng lo hi => exact let ⟨_, _, _, e⟩ := x; ⟨_, e⟩
  | frz ob u => exact let ⟨e, _⟩ := x; ⟨_, e⟩
  | tbl ps => exact ⟨_, x⟩
  | met f y => exact ⟨_, x⟩
  | ext φ => exact let ⟨_, e, _⟩ := x; e
section
variable {X : Cx}
theorem wds_heap {pins : List (Addr × Obj)} {σ : L2.St} {H : Hp} {s : Shared} {k : Addr → List Int × Str} {m : Nat} {ts : List Addr} (I : Inv X pins σ H s) (hx : WdsAt X.K H k m ts) :
    ∀ v ∈ ts.map Value.ref, IsWd s.heap v (k (adO v)).1 (k (adO v)).2 ∧ (k (adO v)).1.length = m := fun v hv => by
  obtain ⟨t, ht, rfl⟩ := List.mem_map.mp hv
  obtain ⟨h1, h2⟩ := hx t ht
  obtain ⟨its, r, it, _⟩ := I.tuple h1
  exact ⟨vals_wd r it, h2⟩
theorem cr_sortedWd : CallR X (.builtin "sorted") (rSortWd X.K) := by
  intro pins s σ H vs us Q I r h
  obtain ⟨a, ts, k, m, rfl, hs, hm, hx, q⟩ := h
  obtain ⟨its, rv, hl, hz⟩ := I.list hs
  rw [Vals.ref1 r]
  obtain rfl := refs_vals rv
  have hz' : (ts.map Value.ref).length ≤ sizeLine := by rw [List.length_map] at hz ⊢; exact hz
  have hw := wds_heap I hx
  refine SrtO.sorted_ord (ltVk_swo k) hl.isList hz' (fun h2 h₁ a' ha kk => ?_) fun out h1 h2 => ?_
  · refine wd_sortable (k := fun v => k (adO v)) (s := { s with heap := h₁ }) hm (by omega) (fun v hv => ⟨(hw v hv).1.keeps fun b o e _ => (kk b o e).2, (hw v hv).2⟩) fun o e => ?_
    have e' : some o = some (seqObj "list" (ts.map Value.ref).toArray 0) := e.symm.trans ha
    cases e'
    intro c
    exact absurd (Value.type.inj c) (by decide)
  · obtain ⟨ts', rfl, k2, k3⟩ := wd_out h1 h2
    obtain ⟨ep, he'⟩ := PyProof.Rows.sortedAll_at s.heap (ts.map Value.ref) (ts'.map Value.ref).toArray
    have hlen : (ts'.map V.ref).length ≤ sizeLine := by
      rw [List.length_map, k2.length_eq]
      rw [List.length_map] at hz
      exact hz
    exact ⟨.ref _, upd H (s.heap.objs.size + 1) (.lst (ts'.map V.ref)), I.laid (t' := s.toks) (fun _ _ => PyProof.Rows.sortedAll_old) (Nat.le_succ _) ⟨hlen, _, ep, vals_refs ts', he'⟩, rfl, q _ _ k2 k3 (I.hok.fresh (Nat.le_succ _))⟩
theorem mt_valuesT : MtR X "dict.values" rValuesT := by
  intro pins s σ H x xs v us Q I rx rxs h
  obtain ⟨a, kvs, rfl, rfl, ha, q⟩ := h
  cases rx
  cases rxs
  obtain ⟨z, hd, xs', rel, o, es, ep, ho, hx, hdat, _⟩ := dt_of I.hok ha
  have raw : s.heap.DictRaw a es ep := ⟨o, ho, hx, hdat⟩
  refine call_meetsIn PySem.F.slot_dict_values raw.typeIs PySem.F.entry_dict_values (PySem.F.args_dict_values_1 _) (meets_dict_values_raw a hd) ⟨⟨es, ep, raw⟩, ?_⟩
  have hf : H s.heap.objs.size = none := I.hok.fresh (Nat.le_refl _)
  exact ⟨.ref s.heap.objs.size, upd H s.heap.objs.size (valsO s.heap.objs.size a), I.laid (t' := s.toks) (fun b u e => Heap.get?_push_of_some _ e) (Nat.le_refl _) (valsO_ok (Heap.get?_push_size _ rfl)), rfl, q _ hf⟩
theorem kt_vals {H : Hp} : ∀ {kvs : List (List L2.Key × V)} {xs : List (List L2.Key × Addr × Value)}, KT H kvs xs → Vals (kvs.map (·.2)) (xs.map (·.2.2))
  | _, _, .nil => .nil
  | _, _, .cons h t => .cons h.2.2 (kt_vals t)
theorem cr_sortedVals (hc : X.calm = true) : CallR X (.builtin "sorted") (rSortVals X.K) := by
  intro pins s σ H vs us Q I r h
  obtain ⟨p, a, kvs, ts, k, m, rfl, hp, ha, ek, hm, hx, q⟩ := h
  obtain rfl := Vals.ref1 r
  have view : s.heap.IsValuesView p a := (show ObjOk X.prog X.w H s.heap p (valsO p a) from I.hok p _ hp).1
  obtain ⟨z, hd, xs', rel, dd⟩ := dt_of I.hok ha
  obtain ⟨es, ep, raw, hes, hat⟩ := dd.raw
  have hh : X.A.handled = none := I.ok.hd hc
  have lk : kvs.length = xs'.length := Paired.length rel
  have rv := kt_vals rel
  rw [ek] at rv
  have ev := refs_vals rv
  have lt : ts.length = xs'.length := by
    have e := congrArg List.length ev
    rw [List.length_map, List.length_map] at e
    exact e.symm
  have hz : xs'.length ≤ sizeLine := by rw [← lk]; exact z
  have hw := wds_heap I hx
  refine Calls.call_function_entry kind_sorted plain_sorted entry_sorted (args_sorted1 _) ?_
  unfold Builtin.«sorted»
  refine wpAny_bind (m := checkCount "sorted" 1 1 _) (wpAny_pure ?_)
  refine wpAny_bind (PySem.W.kdu_collect (A := X.A.in1) (KdlSrc.rawValues (es := es) (ep := ep)) hh ⟨view, raw⟩ (by rw [hes]; exact hz) fun h' tk acc hk hacc => ?_)
  have eacc : acc.toList = ts.map Value.ref := by
    refine List.ext_getElem? fun j => ?_
    by_cases hj : j < es.size
    · have hj2 : j < acc.size := by rw [hacc.1]; exact hj
      obtain ⟨hj3, e⟩ := hacc.2 j acc[j] (Array.getElem?_eq_getElem hj2)
      obtain ⟨y, hy, _, e2, _⟩ := hat j hj
      rw [Array.getElem?_toList, Array.getElem?_eq_getElem hj2, e, e2, ← ev, List.getElem?_map, hy] <;> rfl
    · rw [List.getElem?_eq_none (by rw [Array.length_toList, hacc.1]; omega), List.getElem?_eq_none (by rw [List.length_map]; omega)]
  rw [eacc]
  have hzt : (ts.map Value.ref).length ≤ sizeLine := by rw [List.length_map, lt]; exact hz
  refine wpAny_bind (wpAny_newList ?_ hzt)
  have hob : (h'.push (seqObj "list" (ts.map Value.ref).toArray 0)).get? h'.objs.size = some (seqObj "list" (ts.map Value.ref).toArray 0) := Heap.get?_push_size _ rfl
  have kb : ∀ b o, s.heap.get? b = some o → (h'.push (seqObj "list" (ts.map Value.ref).toArray 0)).get? b = some o := fun b o e => Heap.get?_push_of_some _ (hk b o e)
  have ne0 : ∀ b o, s.heap.get? b = some o → b ≠ h'.objs.size := fun b o e => Nat.ne_of_lt (Heap.lt_size (hk b o e))
  refine wpAny_bind (wpAny_holding (wpAny_call_entry slot_list_sort ⟨_, hob, rfl⟩ entry_list_sort
    (SrtO.list_sort_ord (ltVk_swo k) hob hzt (fun h2 => wd_sortable (k := fun v => k (adO v)) hm (by omega) (fun v hv => ⟨(hw v hv).1.keeps fun b o e _ => kb b o e, (hw v hv).2⟩) fun o e => ?_) fun out h1 h2 => ⟨_, rfl, ?_⟩) (args_list_sort _)))
  · have e' : some o = some (seqObj "list" (ts.map Value.ref).toArray 0) := e.symm.trans hob
    cases e'
    intro c
    exact absurd (Value.type.inj c) (by decide)
  · obtain ⟨ts', rfl, k2, k3⟩ := wd_out h1 h2
    obtain ⟨ep', he'⟩ := PyProof.Rows.sortedHeap_at (vs := ts.map Value.ref) (out := (ts'.map Value.ref).toArray) hob
    have hlen : (ts'.map V.ref).length ≤ sizeLine := by
      rw [List.length_map, k2.length_eq, lt]
      exact hz
    have kf : ∀ b o, s.heap.get? b = some o → (sortedHeap (h'.push (seqObj "list" (ts.map Value.ref).toArray 0)) h'.objs.size (ts.map Value.ref) (ts'.map Value.ref).toArray).get? b = some o := fun b o e =>
      (PyProof.Rows.sortedHeap_old (ne0 b o e) (Heap.lt_size (kb b o e))).trans (kb b o e)
    have nH : H h'.objs.size = none := by
      cases e : H h'.objs.size with
      | none => rfl
      | some u =>
        obtain ⟨o, ho⟩ := objOk_there (I.hok _ _ e)
        exact absurd rfl (ne0 _ o ho)
    have nS : s.heap.get? h'.objs.size = none := by
      cases e : s.heap.get? h'.objs.size with
      | none => rfl
      | some o => exact absurd rfl (ne0 _ o e)
    exact wpAny_pure ⟨_, rfl, .ref _, upd H h'.objs.size (.lst (ts'.map V.ref)), I.laidN (t' := tk) kf nS nH ⟨hlen, _, ep', vals_refs ts', he'⟩, rfl, q _ _ k2 k3 nH⟩
end
end CH
end

section
set_option Elab.async false
set_option linter.all false
set_option maxRecDepth 100000
set_option maxHeartbeats 4000000
namespace CH
open PySem PySem.Spec PyProof.Rows L2
/-! ### d.setdefault(t, x), the keys tuples -/
def tSetdT (td ty tx : TE) : TE := fun σ H Q => td σ H fun x H1 => ∃ a, x = .ref a ∧ IsD H1 a ∧ ty σ H1 fun y H2 => tx σ H2 fun z H3 => ∃ (kvs : List (List Key × V)) (k : List Key) (b : Addr), H3 a = some (.dT kvs) ∧ y = .ref b ∧ H3 b = some (.tup (k.map kV)) ∧ kvs.length < sizeLine ∧
  (∀ v, valV kvs k = some v → Q v H3) ∧ (valV kvs k = none → Q z (upd H3 a (.dT (putK kvs k z))))
section
variable {X : Cx} {pins : List (Addr × Obj)} {σ : L2.St} {H : Hp} {s : Shared} {a b : Addr} {r : Value} {d : V} {A : Around} {E : Value → Shared → Prop}
theorem t_setd {kvs : List (List Key × V)} {k : List Key} {Q : Value → Shared → Prop} (hu : A.units + 1 < cLine) (I : Inv X pins σ H s) (e : H a = some (.dT kvs)) (eb : H b = some (.tup (k.map kV))) (rd : RelV d r) (hl : kvs.length < sizeLine)
    (h1 : ∀ v, valV kvs k = some v → ∀ (w' : Value) (s' : Shared), Inv X pins σ H s' → RelV v w' → Q w' s') (h2 : valV kvs k = none → ∀ (s' : Shared), Inv X pins σ (upd H a (.dT (putK kvs k d))) s' → Q r s') :
    wpAny (model X.prog X.w) A (call (.builtin "dict.setdefault") [.ref a, .ref b, r]) Q E s := by
  obtain ⟨z, hd, xs, rel, dd⟩ := dt_of I.hok e
  have hz : xs.length ≤ sizeLine := by
    rw [← Paired.length rel]
    exact z
  have hv := rel.val k
  refine call_setdefault_heap (hsz := hz) (tupleKind_room_in1 hu) (key_of I.hok eb) hd dd (fun p hp => ?_) fun hn h' dd' hs => ?_
  · rw [hp] at hv
    cases q0 : valV kvs k with
    | none =>
      rw [q0] at hv
      exact (show False from hv).elim
    | some v0 =>
      rw [q0] at hv
      exact h1 v0 q0 _ _ (I.tok _) hv
  · rw [hn] at hv
    cases q0 : valV kvs k with
    | some v0 =>
      rw [q0] at hv
      exact (show False from hv).elim
    | none =>
      have hl2 : (putK kvs k d).length ≤ sizeLine := by
        have := length_putK kvs k d
        omega
      refine h2 q0 _ ?_
      obtain ⟨o, es, ep, ho, c2, c3, c4, _, c5⟩ := dd'
      refine d_write I (by rw [e]; exact True.intro) hs ⟨o, ho⟩ ⟨hl2, hd, _, (rel.put k eb rd).keeps fun c ys ec => ?_, o, es, ep, ho, c2, c3, c4, c5⟩
      rw [upd_ne (ne_of ec e (fun z => nomatch z))]
      exact ec
variable {o e f : Expr} {td ty tx : TE} {apos cpos : Pos}
theorem pe_setdT (hu : X.A.units + 1 < cLine) (ho : PE X o td) (he : PE X e ty) (hf : PE X f tx) (m : M2 X o "setdefault" apos e f cpos) : PE X (.Call (.Attribute o "setdefault" apos) [e, f] [] cpos) (tSetdT td ty tx) := by
  refine ⟨fun pins s σ H Q I h => ?_⟩
  refine wpAny_Call_method m.base m.few m.line PySem.F.plainAttrs_dict PySem.F.slot_dict_setdefault PySem.F.type_dict_setdefault (thn (ho.run pins s σ H _ I h) fun u s1 hx => ?_)
  obtain ⟨x, H1, I1, rx, a, rfl, d, q1⟩ := hx
  obtain rfl : u = Value.ref a := rx
  obtain ⟨t1, t2, _⟩ := isD_at I1 d
  refine ⟨t1, t2, ?_⟩
  rw [m.trees]
  refine Calls.callWith_builtin rfl (Calls.evalArgs_plain (Calls.spliced_cons (thn (he.run pins s1 σ H1 _ I1 q1) fun iv s2 hy => ?_)))
  obtain ⟨y, H2, I2, ry, q2⟩ := hy
  refine Calls.spliced_cons (thn (hf.run pins s2 σ H2 _ I2 q2) fun fv s3 hz => Calls.spliced_nil ?_)
  obtain ⟨z, H3, I3, rz, kvs, k, b, ea, rfl, eb, hl, q3, q4⟩ := hz
  obtain rfl : iv = Value.ref b := ry
  exact t_setd hu I3 ea eb rz hl (fun v hv w' s4 I4 rw' => ⟨v, _, I4, rw', q3 v hv⟩) fun hn s4 I4 => ⟨z, _, I4, rz, q4 hn⟩
/-! ### products of great numbers: together less than a hundred million bits -/
def CMulH (i j : Int) : Prop := i.natAbs.log2 + j.natAbs.log2 < 100000000
theorem CMulH.ok {i j : Int} (h : CMulH i j) : IntMulOk i j := by
  have bits : ∀ x : Int, Builtin.Int.intBits x ≤ x.natAbs.log2 + 1 := fun x => by
    unfold Builtin.Int.intBits
    split <;> omega
  have b1 := bits i
  have b2 := bits j
  have hh : i.natAbs.log2 + j.natAbs.log2 < 100000000 := h
  have line : bitsLine = 134217728 := by decide
  unfold IntMulOk
  intro z
  have big := (Bool.and_eq_true_iff.mp z).2
  unfold Builtin.Int.intTooBig at big
  have big2 := of_decide_eq_true big
  rw [line] at big2
  omega
theorem op_mulH : OpR X (binaryOp .Mult) (rI CMulH fun i j => .int (i * j)) := opI fun _ _ _ _ _ _ _ hc q => mul_int q hc.ok
theorem huge_mul {i j : Int} {a b : Nat} (ha : i.natAbs < 2 ^ a) (hb : j.natAbs < 2 ^ b) (h0 : 0 < a) (h1 : 0 < b) (h : a + b ≤ 100000000) : CMulH i j := by
  have x := PySem.Flt.log2_lt_of h0 ha
  have y := PySem.Flt.log2_lt_of h1 hb
  unfold CMulH
  omega
end
end CH
end

section
set_option Elab.async false
set_option linter.all false
set_option maxRecDepth 100000
set_option maxHeartbeats 4000000
namespace CH
open PySem PySem.Spec PyProof.Rows L2
open GxR (TabB TabG Tabbed)
/-! ### any, all of a generator expression over a tuple or a list -/
/-- the generator expression's own scope; captured names are cells of the def -/
structure GnS (sc scope : Scope) (x : Str) : Prop where
  kind : scope.kind = .function
  co : scope.isCoroutine = false
  cell : ∀ y ∈ scope.names, y.2 ≠ .cell
  dot : scope.names.lookup (".0" : Str) = some NameKind.local
  loc : scope.names.lookup x = some .local
  free : ∀ y ∈ scope.names, y.2 = .free → sc.names.lookup y.1 = some .cell ∨ sc.names.lookup y.1 = some .free
def gnSB (sc scope : Scope) (x : Str) : Bool :=
  decide (scope.kind = .function) && (!scope.isCoroutine && ((scope.names.all fun y => !decide (y.2 = .cell)) && (decide (scope.names.lookup (".0" : Str) = some NameKind.local) && (decide (scope.names.lookup x = some .local) &&
    scope.names.all fun y => !decide (y.2 = .free) || (decide (sc.names.lookup y.1 = some .cell) || decide (sc.names.lookup y.1 = some .free))))))
theorem gnS_by {sc scope : Scope} {x : Str} (h : gnSB sc scope x = true) : GnS sc scope x := by
  unfold gnSB at h
  simp only [Bool.and_eq_true, Bool.or_eq_true, Bool.not_eq_true', decide_eq_true_eq, decide_eq_false_iff_not, List.all_eq_true] at h
  obtain ⟨h1, h2, h3, h4, h5, h6⟩ := h
  refine ⟨h1, h2, fun y hy => h3 y hy, h4, h5, fun y hy e => ?_⟩
  rcases h6 y hy with z | z
  · exact absurd e z
  · exact z
theorem GnS.has {X : Cx} {scope : Scope} {x : Str} (S : GnS X.env.scope scope x) (ok : X.Ok) : ∀ y ∈ scope.names, y.2 = .free → ∃ c, X.env.cells.lookup y.1 = some c := fun y hy e => by
  rcases S.free y hy e with k | k
  · exact ok.has _ (.inl k)
  · exact ok.has _ (.inr k)
/-- a captured name's cell, in the generator's frame -/
theorem clo_look {cells : List (Str × Addr)} {names : List (Str × NameKind)} {y : Str} {c : Addr} (hy : names.lookup y = some .free) (hc : cells.lookup y = some c) : (cloFrom cells names []).lookup y = some c := by
  obtain ⟨c', e'⟩ := mem_lookup (cloFrom_has (cells := cells) (acc := []) (PySem.mem_of_lookup hy))
  rcases cloFrom_mem (PySem.mem_of_lookup e') with m | ⟨_, rfl⟩
  · exact absurd m (by simp)
  · rw [e', hc] <;> rfl
/-- the element's answers pb over the items its, wherever the objects of h (but the table at P) stand -/
def EltG (X : Cx) (scope : Scope) (x : Str) (elt : Expr) (its : List Value) (pb : Nat → Bool) (h : Heap) (P : Addr) : Prop :=
  ∀ (cenv : Env) (A' : Around) (E' : Value → Shared → Prop) (i : Nat) (v : Value) (s₂ : Shared) (m₂ : Str → Option Value), A'.handled = none → cenv.scope = scope → cenv.cells = cloFrom X.env.cells scope.names [] →
    its[i]? = some v → s₂.heap.Ns cenv.locals m₂ → m₂ x = some v → (∀ b o, b ≠ P → h.get? b = some o → s₂.heap.get? b = some o) →
    wpAny (model X.prog X.w) A' (eval elt cenv) (fun y s₃ => y = .bool (pb i) ∧ Keeps s₂ s₃) E' s₂
section
variable {X : Cx} {pins : List (Addr × Obj)} {σ : L2.St} {H : Hp} {s : Shared}
theorem keeps_id (s : Shared) : Keeps s s := ⟨s.heap, s.toks, rfl, fun _ _ e => e⟩
theorem all_passing (n : Nat) : passing (fun _ => true) n 0 = List.range n := by
  unfold passing
  simp
/-- the generator g over n items, ready to be walked in the state s5; H1: what was held before -/
def GReady (X : Cx) (pins : List (Addr × Obj)) (σ : L2.St) (H1 : Hp) (P : Addr) (n : Nat) (pb : Nat → Bool) (g : Addr) (s5 : Shared) : Prop :=
  ∃ (fp wr : List Addr) (G : Array GenState → Array GenState → Prop) (F : Nat → Value → Prop) (Sx : Nat → Shared → Prop),
    WalksS X.prog X.w X.A.in1 g fp wr G n F Sx ∧ Sx 0 s5 ∧ (∀ j y, F j y → y = .bool (pb j)) ∧
    ∀ s', Moved wr G s5 s' → ∃ H2, Tabbed P H1 H2 ∧ Inv X pins σ H2 s'
/-- what the walked thing gives: an iterator oI pushed on the heap, its walk -/
def GSrc (X : Cx) (s1 : Shared) (xv : Value) (its : List Value) : Prop :=
  ∃ (oI : Obj) (Sx : Nat → Heap → Prop) (a : Addr), a < s1.heap.objs.size ∧ (∀ vs, s1.heap.get? a ≠ some { cls := .none, data := .fields vs }) ∧
    (∀ (Q : Value → Shared → Prop) (E : Value → Shared → Prop), Q (.ref s1.heap.objs.size) { s1 with heap := s1.heap.push oI } → wpAny (model X.prog X.w) X.A (pyIter xv) Q E s1) ∧
    (∀ A' : Around, A'.handled = none → Walks X.prog X.w A' s1.heap.objs.size [s1.heap.objs.size, a] [s1.heap.objs.size] its.length (fun i v => its[i]? = some v) Sx) ∧ Sx 0 (s1.heap.push oI)
theorem gsrc_tup {s1 : Shared} {a : Addr} {its : List Value} (ht : s1.heap.IsTuple a its.toArray) : GSrc X s1 (.ref a) its := by
  have hlt : a < s1.heap.objs.size := let ⟨_, ho, _⟩ := ht; Heap.lt_size ho
  refine ⟨_, fun i h => h.IsTupleIter s1.heap.objs.size a i ∧ h.IsTuple a its.toArray, a, hlt, fun vs z => ?_, fun Q E q => wpAny_pyIter_tuple ht q, fun A' hA => ?_, ⟨⟨_, Heap.get?_push_size _ rfl, rfl, rfl⟩, ht.push _⟩⟩
  · obtain ⟨o, ho, hc, _⟩ := ht
    rw [ho] at z
    cases z
    cases hc
  have W := Walks.tuple (prog := X.prog) (w := X.w) (A := A') hA s1.heap.objs.size a (Nat.ne_of_lt hlt) its.toArray
  simpa using W
theorem gsrc_lst {s1 : Shared} {a : Addr} {its : List Value} (ht : s1.heap.IsList a its.toArray) : GSrc X s1 (.ref a) its := by
  have hlt : a < s1.heap.objs.size := let ⟨_, ho, _⟩ := ht; Heap.lt_size ho
  refine ⟨_, fun i h => h.IsListIter s1.heap.objs.size a i ∧ h.IsList a its.toArray, a, hlt, fun vs z => ?_, fun Q E q => wpAny_pyIter_list ht q, fun A' hA => ?_, ⟨⟨_, Heap.get?_push_size _ rfl, rfl, rfl⟩, ht.push _⟩⟩
  · obtain ⟨o, ho, hc, _⟩ := ht
    rw [ho] at z
    cases z
    cases hc
  have W := Walks.list (prog := X.prog) (w := X.w) (A := A') hA s1.heap.objs.size a (Nat.ne_of_lt hlt) its.toArray
  simpa using W
/-- the expression is evaluated: a generator stands ready -/
theorem gen_made {c P : Addr} {elt iter : Expr} {x : Str} {px gpos : Pos} {scope : Scope} {te : TE} {k : Nat} {Q' : Value → Shared → Prop} {R : V → Hp → Prop}
    (hr : Room k X.A) (TB : TabB X.base X.mg c P) (hcode : X.env.code = .ref c) (S : GnS X.env.scope scope x) (hi : PE X iter te)
    (hs : ∀ v, genFold iter X.env v = pure v) (I : Inv X pins σ H s) (h : te σ H R)
    (hQ : ∀ (v : V) (xv : Value) (H1 : Hp) (s1 : Shared), Inv X pins σ H1 s1 → RelV v xv → R v H1 → TabG H1 P ∧ ∃ (its : List Value) (pb : Nat → Bool), GSrc X s1 xv its ∧ EltG X scope x elt its pb s1.heap P ∧
      ∀ g s5, GReady X pins σ H1 P its.length pb g s5 → Q' (.ref g) s5) :
    wpAny (model X.prog X.w) X.A (eval (.GeneratorExp elt [⟨.Name x px, iter, [], 0⟩] scope gpos) X.env) Q' X.xe s := by
  refine wpAny_GeneratorExp_walksQ hr.hd S.co (closure_ok (S.has I.ok)) S.cell S.dot S.loc S.kind (by have := hr.dp; omega) ?_ hs
  refine thn (hi.run pins s σ H _ I h) fun xv s1 hv => ?_
  obtain ⟨v, H1, I1, r1, q1⟩ := hv
  obtain ⟨⟨ps, hP, ht⟩, its, pb, ⟨oI, Sx, a, hal, haP, hit, W, st0⟩, hel, hQ⟩ := hQ v xv H1 s1 I1 r1 q1
  refine hit _ _ ?_
  have hPs : s1.heap.get? P = some { cls := .none, data := .fields ps } := I1.hok P _ hP
  have hPlt : P < s1.heap.objs.size := Heap.lt_size hPs
  have hP2 : (s1.heap.push oI).get? P = some { cls := .none, data := .fields ps } := Heap.get?_push_of_some _ hPs
  have cd : PySem.W.CodeHd (s1.heap.push oI) c P := TB.code.keeps fun b u e => Heap.get?_push_of_some _ (I1.bk b u e)
  have lim2 : (s1.heap.push oI).NoLimit := I1.nolimit.push oI
  have sz2 : (s1.heap.push oI).objs.size = s1.heap.objs.size + 1 := Heap.size_push ..
  -- behind the code object, found or made
  have rest : ∀ (code : Value) (h3 : Heap) (tk : Nat) (ps' : Array Value), Heap.ExtBut P (s1.heap.push oI) h3 → (s1.heap.push oI).objs.size ≤ h3.objs.size → h3.get? P = some { cls := .none, data := .fields ps' } → (∃ more, ps' = ps ++ more) → TriplesOk ps'.toList →
      wpAny (model X.prog X.w) X.A (builtinsFor X.env.globals X.env.builtins) (fun bi s₄ =>
        ∃ Ia fp wr n₀ Pf St₀ pz F, Value.ref s1.heap.objs.size = .ref Ia ∧ (∀ A' : Around, A'.handled = none → Walks X.prog X.w A' Ia fp wr n₀ Pf St₀) ∧ St₀ 0 s₄.heap ∧ (∀ b ∈ fp, b < s₄.heap.objs.size) ∧ s₄.heap.NoLimit ∧ cStatics ∉ wr ∧
          (∀ href : Heap, (∀ b o, s₄.heap.get? b = some o → href.get? b = some o) →
            QuietGen X.prog X.w (genEnv scope (cloFrom X.env.cells scope.names []) s₄.heap.objs.size code bi X.env) x [] elt (List.range s₄.heap.objs.size) wr Pf pz F href) ∧
          (∀ a h₅ tk gs, gs.bare = true → s₄.heap.objs.size < a → h₅.objs.size = a + 1 → (∀ b o, s₄.heap.get? b = some o → h₅.get? b = some o) →
            WalksS X.prog X.w X.A.in4 a (a :: s₄.heap.objs.size :: List.range s₄.heap.objs.size) (s₄.heap.objs.size :: wr) (GenOnlyQ s₄.gens.size) (passing pz n₀ 0).length
              (fun j y => ∃ i, (passing pz n₀ 0)[j]? = some i ∧ F i y) (GenAt X.prog X.w X.A.in4 a s₄.gens.size s₄.heap.objs.size (List.range s₄.heap.objs.size) wr pz n₀ F) →
            GenAt X.prog X.w X.A.in4 a s₄.gens.size s₄.heap.objs.size (List.range s₄.heap.objs.size) wr pz n₀ F 0 { s₄ with gens := s₄.gens.push gs, toks := tk, heap := h₅ } →
            Q' (.ref a) { s₄ with gens := s₄.gens.push gs, toks := tk, heap := h₅ })) X.xe { s1 with heap := h3, toks := tk } := by
    intro code h3 tk ps' hx hsz hP3 hmore ht3
    obtain ⟨bm, ob, e1, e2, e3, e4, e5, e6, e7, e8⟩ := TB.bm
    have hcP : cStatics ≠ P := fun e => by
      obtain ⟨_, hns, _⟩ := I1.nolimit
      obtain ⟨o', es, ep, ho, hd, _⟩ := hns
      rw [e, hPs] at ho
      cases ho
      cases hd
    have h3s : s1.heap.objs.size < h3.objs.size := by
      rw [sz2] at hsz
      exact hsz
    have hcl : cStatics < s1.heap.objs.size := let ⟨_, hns, _⟩ := I1.nolimit; hns.lt
    have keep3 : ∀ b u, b ≠ P → s1.heap.get? b = some u → h3.get? b = some u := fun b u hb e => hx b u hb (Heap.get?_push_of_some _ e)
    refine wpAny_builtinsFor (m := X.mg) (by rw [I1.ok.glob]; exact ((I1.mod.glob.keeps I1.bk).push oI).extBut hx TB.gP) e1 e2 (keep3 _ _ e4 (I1.bk _ _ e5)) e6 e7 e8 ?_
    refine ⟨s1.heap.objs.size, [s1.heap.objs.size, a], [s1.heap.objs.size], its.length, fun i v => its[i]? = some v, Sx, (fun _ => true), (fun i y => i < its.length ∧ y = .bool (pb i)), rfl, W, ?_, fun b hb => ?_, lim2.extBut hx hcP, fun z => ?_, fun href hhref => ?_, ?_⟩
    · refine (W X.A hr.hd).frame _ _ _ st0 fun b hb u e => hx b u (fun z => ?_) e
      rcases List.mem_cons.mp hb with z2 | z2
      · exact Nat.ne_of_lt hPlt (z.symm.trans z2)
      · -- the table is no list and no tuple: the walked thing stands elsewhere
        exact haP ps (by rw [← List.mem_singleton.mp z2, z]; exact hPs)
    · rcases List.mem_cons.mp hb with z | z
      · rw [z]
        exact h3s
      · rw [List.mem_singleton.mp z]
        exact Nat.lt_trans hal h3s
    · exact Nat.ne_of_lt hcl (List.mem_singleton.mp z)
    · have back : ∀ (s₂ : Shared), (∀ b ∈ List.range h3.objs.size, b ∉ [s1.heap.objs.size] → ∀ o, href.get? b = some o → s₂.heap.get? b = some o) → ∀ b o, b ≠ P → s1.heap.get? b = some o → s₂.heap.get? b = some o := fun s₂ hk b o hb e => by
        have hlt := Heap.lt_size e
        refine hk b (List.mem_range.mpr (Nat.lt_trans hlt h3s)) (fun z => Nat.ne_of_lt hlt (List.mem_singleton.mp z)) o (hhref b o (keep3 b o hb e))
      refine ⟨fun A' E' i v s₂ m₂ hA hPv hn hm hk => ?_, fun A' E' i v s₂ m₂ hA hPv hp hn hm hk => ?_⟩
      · simp only [List.forIn_nil]
        exact wpAny_pure ⟨rfl, keeps_id _⟩
      · exact wpAny_mono (hel _ A' E' i v s₂ m₂ hA rfl rfl hPv hn hm (back s₂ hk)) (fun y s3 r => ⟨⟨(List.getElem?_eq_some_iff.mp hPv).1, r.1⟩, r.2⟩) fun _ _ e => e
    · intro g h5 tk5 gs hgb hag hsz5 hk5 W5 hat
      simp only [all_passing, List.length_range] at W5
      refine hQ g _ ⟨_, _, _, _, _, W5.in4_1, hat, fun j y hy => ?_, fun s' hm => ?_⟩
      · obtain ⟨i, hij, _, rfl⟩ := hy
        obtain ⟨hj, ej⟩ := List.getElem?_eq_some_iff.mp hij
        rw [List.getElem_range] at ej
        rw [ej]
      · obtain ⟨more, em⟩ := hmore
        have nwr : ∀ b u, s1.heap.get? b = some u → b ∉ h3.objs.size :: [s1.heap.objs.size] := fun b u e hb => by
          have hl := Heap.lt_size e
          rcases List.mem_cons.mp hb with z | z
          · rw [z] at hl
            have h9 : (h3.objs.size : Nat) < s1.heap.objs.size := hl
            omega
          · rw [List.mem_singleton.mp z] at hl
            exact Nat.lt_irrefl _ hl
        have J := GxR.inv_tab (more := more) (h' := s'.heap) (g' := s'.gens) (d' := s'.drawn) (t' := s'.toks) I1 hP (fun b u hb e => hm.heap b u (nwr b u e) (hk5 b u (keep3 b u hb e)))
          (by rw [← em]; exact hm.heap P _ (nwr P _ hPs) (hk5 P _ hP3)) (AllBare.movedS (I1.bare.push hgb) hm)
        rw [GxR.sh_eta s1 s' hm.os] at J
        exact ⟨upd H1 P (.tbl (ps ++ more)), ⟨⟨ps ++ more, upd_same, by rw [← em]; exact ht3⟩, fun b hb => upd_ne hb⟩, J⟩
  refine ⟨lim2, ?_⟩
  cases hf : codeAmong gpos ps.toList with
  | none =>
    refine wpAny_genexprCodeX hcode (cd.code hP2 ht) (cd.tab hP2) hf fun c' h' tk hx hge hlt hco' _ htab' _ => ?_
    obtain ⟨o1, vs, f1, tf, fl, tg, inF, tx, tt, op, _, _, _, _, _, _, _, _, _, htr, _⟩ := hco'
    exact rest _ h' tk _ hx (Nat.le_trans hge (Nat.le_of_lt hlt)) htab'.2 ⟨_, rfl⟩ htr
  | some cv =>
    refine wpAny_genexprCode_hit hcode (cd.code hP2 ht) hf ?_
    exact rest cv (s1.heap.push oI) s1.toks ps (Heap.ExtBut.refl _ _) (Nat.le_refl _) hP2 ⟨#[], by simp⟩ ht

/-- any(..), all(..) of such a generator: what is asked is made in R -/
def tGen (P : Addr) (K : PySem.W.Frag) (te : TE) (AN : List Bool → Bool) (AS : List V → L2.St → Hp → List Bool → Prop) : TE := fun σ H Q => te σ H fun v H1 => TabG H1 P ∧ ∃ (a : Addr) (xs : List V) (bs : List Bool), v = .ref a ∧ (SqL K H1 a xs ∨ SqT K H1 a xs) ∧ AS xs σ H1 bs ∧ bs.length = xs.length ∧ ∀ H2, Tabbed P H1 H2 → Q (.bl (AN bs)) H2
/-- the element as it is read: from what stands in the frame and the heap, over the items xs, the answers bs -/
def EltR (X : Cx) (scope : Scope) (x : Str) (elt : Expr) (AS : List V → L2.St → Hp → List Bool → Prop) : Prop :=
  ∀ (pins : List (Addr × Obj)) (σ : L2.St) (H : Hp) (s : Shared) (xs : List V) (its : List Value) (bs : List Bool) (P : Addr), Inv X pins σ H s → Vals xs its → AS xs σ H bs → (∃ ps, H P = some (.tbl ps)) → bs.length = xs.length → EltG X scope x elt its (fun i => bs.getD i false) s.heap P
theorem range_all (bs : List Bool) : (List.range bs.length).all (fun i => bs.getD i false) = bs.all id := by
  rw [Bool.eq_iff_iff, List.all_eq_true, List.all_eq_true]
  constructor
  · intro h b hb
    obtain ⟨j, hj, e⟩ := List.getElem_of_mem hb
    have q := h j (List.mem_range.mpr hj)
    rw [List.getD_eq_getElem?_getD, List.getElem?_eq_getElem hj, e] at q
    exact q
  · intro h j hj
    have hj' := List.mem_range.mp hj
    rw [List.getD_eq_getElem?_getD, List.getElem?_eq_getElem hj']
    exact h _ (List.getElem_mem hj')
theorem range_any (bs : List Bool) : (List.range bs.length).any (fun i => bs.getD i false) = bs.any id := by
  rw [Bool.eq_iff_iff, List.any_eq_true, List.any_eq_true]
  constructor
  · intro ⟨j, hj, h⟩
    have hj' := List.mem_range.mp hj
    rw [List.getD_eq_getElem?_getD, List.getElem?_eq_getElem hj'] at h
    exact ⟨bs[j], List.getElem_mem hj', h⟩
  · intro ⟨b, hb, h⟩
    obtain ⟨j, hj, e⟩ := List.getElem_of_mem hb
    refine ⟨j, List.mem_range.mpr hj, ?_⟩
    rw [List.getD_eq_getElem?_getD, List.getElem?_eq_getElem hj, e]
    exact h
theorem gen_read {c P : Addr} {elt iter : Expr} {x : Str} {px gpos : Pos} {scope : Scope} {te : TE} {k : Nat} {AN : List Bool → Bool} {AS : List V → L2.St → Hp → List Bool → Prop} {Q : VK} {Q' : Value → Shared → Prop}
    (hr : Room k X.A) (TB : TabB X.base X.mg c P) (hcode : X.env.code = .ref c) (S : GnS X.env.scope scope x) (hi : PE X iter te) (hel : EltR X scope x elt AS)
    (hs : ∀ v, genFold iter X.env v = pure v) (I : Inv X pins σ H s) (h : tGen P X.K te AN AS σ H Q)
    (hQ : ∀ (bs : List Bool) (H1 : Hp) g s5, (∀ H2, Tabbed P H1 H2 → Q (.bl (AN bs)) H2) → GReady X pins σ H1 P bs.length (fun i => bs.getD i false) g s5 → Q' (.ref g) s5) :
    wpAny (model X.prog X.w) X.A (eval (.GeneratorExp elt [⟨.Name x px, iter, [], 0⟩] scope gpos) X.env) Q' X.xe s := by
  refine gen_made hr TB hcode S hi hs I h fun v xv H1 s1 I1 rv q => ?_
  obtain ⟨tg, a, xs, bs, rfl, hq, ha, hl, q⟩ := q
  obtain rfl : xv = Value.ref a := rv
  have tg' := tg
  obtain ⟨ps, hP, _⟩ := tg'
  refine ⟨tg, ?_⟩
  rcases hq with hq | hq
  · obtain ⟨its, r, pl, _⟩ := I1.list hq
    refine ⟨its, _, gsrc_lst pl.isList, hel pins σ H1 s1 xs its bs P I1 r ha ⟨ps, hP⟩ hl, fun g s5 gr => hQ bs H1 g s5 q ?_⟩
    rw [hl, r.length]
    exact gr
  · obtain ⟨its, r, pl, _⟩ := I1.tuple hq
    refine ⟨its, _, gsrc_tup (show s1.heap.IsTuple a its.toArray from pl), hel pins σ H1 s1 xs its bs P I1 r ha ⟨ps, hP⟩ hl, fun g s5 gr => hQ bs H1 g s5 q ?_⟩
    rw [hl, r.length]
    exact gr
theorem gtruth {A : Around} {F : Nat → Value → Prop} {bs : List Bool} (h : ∀ j y, F j y → y = .bool (bs.getD j false)) : TruthOf X.prog X.w A F (fun i => bs.getD i false) := fun j y sj Qj Ej hy hq => by
  rw [h j y hy]
  exact wpAny_truthy_bool hq
theorem pe_allG {c P : Addr} {elt iter : Expr} {x : Str} {px p pos gpos : Pos} {scope : Scope} {te : TE} {k : Nat} {AS : List V → L2.St → Hp → List Bool → Prop}
    (hr : Room k X.A) (hg : Gl X "all") (hm : X.mg "all" = none) (hb : bootBuiltins "all" = some (.builtin "all")) (TB : TabB X.base X.mg c P) (hcode : X.env.code = .ref c) (S : GnS X.env.scope scope x) (hi : PE X iter te) (hel : EltR X scope x elt AS)
    (hs : ∀ v, genFold iter X.env v = pure v)
    (he : starEach [.GeneratorExp elt [⟨.Name x px, iter, [], 0⟩] scope gpos] X.env = (false, eval (.GeneratorExp elt [⟨.Name x px, iter, [], 0⟩] scope gpos) X.env) :: starEach [] X.env := by rfl) :
    PE X (.Call (.Name "all" p) [.GeneratorExp elt [⟨.Name x px, iter, [], 0⟩] scope gpos] [] pos) (tGen P X.K te (fun bs => bs.all id) AS) := by
  refine ⟨fun pins s σ H Q I h => ?_⟩
  refine wpAny_Call_Name_kw (ld_blt I hg hm hb ?_)
  refine PyProof.Rows.callWith_builtin1 ?_ he (by rfl)
  rw [he]
  show wpAny _ _ (spliced ((false, eval (.GeneratorExp elt [⟨.Name x px, iter, [], 0⟩] scope gpos) X.env) :: backTo pos (starEach [] X.env))) _ _ s
  refine Calls.spliced_cons (gen_read hr TB hcode S hi hel hs I h fun bs H1 g s5 hR hG => ?_)
  obtain ⟨fp, wr, G, F, Sx, W, hst, htr, hI⟩ := hG
  refine Calls.spliced_nil ?_
  refine call_all_walkS (W.self 0 _ _ _ hst ⟨g, fp, wr, G, _, F, Sx, _, rfl, W, hst, gtruth htr, fun s' hmv => ?_⟩)
  obtain ⟨H2, hT, J⟩ := hI s' hmv
  refine ⟨.bl _, H2, J, rfl, ?_⟩
  rw [range_all bs]
  exact hR H2 hT
theorem pe_anyG {c P : Addr} {elt iter : Expr} {x : Str} {px p pos gpos : Pos} {scope : Scope} {te : TE} {k : Nat} {AS : List V → L2.St → Hp → List Bool → Prop}
    (hr : Room k X.A) (hg : Gl X "any") (hm : X.mg "any" = none) (hb : bootBuiltins "any" = some (.builtin "any")) (TB : TabB X.base X.mg c P) (hcode : X.env.code = .ref c) (S : GnS X.env.scope scope x) (hi : PE X iter te) (hel : EltR X scope x elt AS)
    (hs : ∀ v, genFold iter X.env v = pure v)
    (he : starEach [.GeneratorExp elt [⟨.Name x px, iter, [], 0⟩] scope gpos] X.env = (false, eval (.GeneratorExp elt [⟨.Name x px, iter, [], 0⟩] scope gpos) X.env) :: starEach [] X.env := by rfl) :
    PE X (.Call (.Name "any" p) [.GeneratorExp elt [⟨.Name x px, iter, [], 0⟩] scope gpos] [] pos) (tGen P X.K te (fun bs => bs.any id) AS) := by
  refine ⟨fun pins s σ H Q I h => ?_⟩
  refine wpAny_Call_Name_kw (ld_blt I hg hm hb ?_)
  refine PyProof.Rows.callWith_builtin1 ?_ he (by rfl)
  rw [he]
  show wpAny _ _ (spliced ((false, eval (.GeneratorExp elt [⟨.Name x px, iter, [], 0⟩] scope gpos) X.env) :: backTo pos (starEach [] X.env))) _ _ s
  refine Calls.spliced_cons (gen_read hr TB hcode S hi hel hs I h fun bs H1 g s5 hR hG => ?_)
  obtain ⟨fp, wr, G, F, Sx, W, hst, htr, hI⟩ := hG
  refine Calls.spliced_nil ?_
  refine call_any_walkS (W.self 0 _ _ _ hst ⟨g, fp, wr, G, _, F, Sx, _, rfl, W, hst, gtruth htr, fun s' hmv => ?_⟩)
  obtain ⟨H2, hT, J⟩ := hI s' hmv
  refine ⟨.bl _, H2, J, rfl, ?_⟩
  rw [range_any bs]
  exact hR H2 hT
/-- the element x in y, y a captured name (slot j) -/
def AsIn (K : PySem.W.Frag) (j : Nat) : List V → L2.St → Hp → List Bool → Prop := fun xs σ H bs => ∃ (b : Addr) (ys : List V), σ[j]? = some (some (.ref b)) ∧ (SqL K H b ys ∨ SqT K H b ys) ∧ xs.all flatV = true ∧ ys.all flatV = true ∧ bs = xs.map fun x => inV x ys
theorem elt_in {scope : Scope} {x y : Str} {j : Nat} {p1 p2 p3 : Pos} (S : GnS X.env.scope scope x) (hN : X.N[j]? = some y) (hy : scope.names.lookup y = some .free) (hc : X.env.scope.names.lookup y = some .cell)
    (hd : (x == ("__debug__" : Str)) = false := by decide) (hd2 : (y == ("__debug__" : Str)) = false := by decide) (hcd : (y == ("__classdict__" : Str)) = false := by decide) : EltR X scope x (.Compare (.Name x p1) [.In] [.Name y p2] p3) (AsIn X.K j) := by
  intro pins σ H s xs its bs P I rv hA hP hl cenv A' E' i v s₂ m₂ hAh hsc hcl hi hn hm hk
  obtain ⟨b, ys, hj, hq, fx, fy, rfl⟩ := hA
  obtain ⟨ps, hP⟩ := hP
  have hPs : s.heap.get? P = some { cls := .none, data := .fields ps } := I.hok P _ hP
  obtain ⟨mm, _, hloc⟩ := I.loc
  obtain ⟨u, ru, lk⟩ := hloc j y (.ref b) hN hj (.inr (.inl hc))
  obtain rfl : u = Value.ref b := ru
  obtain ⟨c, hcc, hcell⟩ : ∃ c, X.env.cells.lookup y = some c ∧ s.heap.IsCell c (some (.ref b)) := by
    rcases lk with ⟨z, _⟩ | ⟨_, z⟩
    · have z2 : X.env.scope.names.lookup y = some .local := z
      rw [hc] at z2
      cases z2
    · exact z
  have hlook : cenv.cells.lookup y = some c := by rw [hcl]; exact clo_look hy hcc
  have hcell2 : s₂.heap.IsCell c (some (.ref b)) := by
    obtain ⟨o, ho, hd⟩ := hcell
    refine ⟨o, hk c o (fun z => ?_) ho, hd⟩
    rw [z, hPs] at ho
    cases ho
    cases hd
  have hkind : cenv.scope.kind = .function := by rw [hsc]; exact S.kind
  refine wpAny_Compare1 ?_
  refine wpAny_Name (wpAny_loadName_local hkind (show cenv.scope.names.lookup x = some .local by rw [hsc]; exact S.loc) hn hm ?_) hd
  refine wpAny_Name (wpAny_loadName_free hkind (show cenv.scope.names.lookup y = some .free by rw [hsc]; exact hy) hlook hcell2 ?_ hcd) hd2
  -- the item
  obtain ⟨z, hz, rz⟩ : ∃ z, xs[i]? = some z ∧ RelV z v := by
    have hlt : i < its.length := (List.getElem?_eq_some_iff.mp hi).1
    have hlt2 : i < xs.length := by rw [rv.length]; exact hlt
    obtain ⟨w, e1, e2⟩ := rv.get (List.getElem?_eq_getElem hlt2)
    rw [hi] at e1
    cases e1
    exact ⟨_, List.getElem?_eq_getElem hlt2, e2⟩
  have fz : flatV z = true := List.all_eq_true.mp fx z (List.mem_of_getElem? hz)
  have eb : (xs.map fun x => inV x ys).getD i false = inV z ys := by
    rw [List.getD_eq_getElem?_getD, List.getElem?_map, hz] <;> rfl
  rcases hq with hq | hq
  · obtain ⟨js, r, pl, _⟩ := I.list hq
    have pl2 : s₂.heap.IsList b js.toArray := by
      obtain ⟨o, ho, ha, hb⟩ := pl.isList
      exact ⟨o, hk b o (fun z => by rw [z, hPs] at ho; cases ho; cases ha) ho, ha, hb⟩
    refine SeqAt.in_listAt (eqU z) pl2 (fun w hw => mem_eqAt rz fz r fy w (by simpa using hw)) ⟨?_, keeps_id _⟩
    rw [show js.toArray.any (eqU z) = js.any (eqU z) by simp, any_eqU r fy]
    exact congrArg Value.bool eb.symm
  · obtain ⟨js, r, pl, _⟩ := I.tuple hq
    have pl2 : s₂.heap.IsTuple b js.toArray := by
      obtain ⟨o, ho, ha, hb⟩ := (show s.heap.IsTuple b js.toArray from pl)
      exact ⟨o, hk b o (fun z => by rw [z, hPs] at ho; cases ho; cases ha) ho, ha, hb⟩
    refine SeqAt.in_tupleAt (eqU z) pl2 (fun w hw => mem_eqAt rz fz r fy w (by simpa using hw)) ⟨?_, keeps_id _⟩
    rw [show js.toArray.any (eqU z) = js.any (eqU z) by simp, any_eqU r fy]
    exact congrArg Value.bool eb.symm
end
end CH
end

section
set_option Elab.async false
set_option linter.all false
set_option maxRecDepth 100000
set_option maxHeartbeats 4000000
namespace CH
open PySem PySem.Spec PyProof.Rows L2
open GxR (TabB TabG Tabbed)
/-! ### what stays: all but the tables, which stay tables -/
structure Kx (H H' : Hp) : Prop where
  o : ∀ b u, H b = some u → (∀ ps, u ≠ .tbl ps) → H' b = some u
  g : ∀ P, TabG H P → TabG H' P
  f : ∀ b, H' b = none → H b = none
theorem Kx.refl (H : Hp) : Kx H H := ⟨fun _ _ h _ => h, fun _ h => h, fun _ h => h⟩
theorem Kx.trans {H H1 H2 : Hp} (a : Kx H H1) (b : Kx H1 H2) : Kx H H2 := ⟨fun c u h n => b.o c u (a.o c u h n) n, fun P h => b.g P (a.g P h), fun c h => a.f c (b.f c h)⟩
theorem Kx.rd {H H' : Hp} {a : Addr} {u : HO} (k : Kx H H') (n : ∀ ps, u ≠ .tbl ps) (h : Rd H a u) : Rd H' a u := by
  rcases h with h | ⟨o, h⟩
  · exact .inl (k.o _ _ h n)
  · exact .inr ⟨o, k.o _ _ h fun ps z => nomatch z⟩
theorem Kx.l {K : PySem.W.Frag} {H H' : Hp} {a : Addr} {xs : List V} (k : Kx H H') (h : SqL K H a xs) : SqL K H' a xs := by
  rcases h with h | h
  · exact .inl (k.rd (fun ps z => nomatch z) h)
  · exact .inr h
theorem Kx.t {K : PySem.W.Frag} {H H' : Hp} {a : Addr} {xs : List V} (k : Kx H H') (h : SqT K H a xs) : SqT K H' a xs := by
  rcases h with h | h
  · exact .inl (k.rd (fun ps z => nomatch z) h)
  · exact .inr h
theorem Kx.lst {H H' : Hp} {a : Addr} {xs : List V} (k : Kx H H') (h : H a = some (.lst xs)) : H' a = some (.lst xs) := k.o _ _ h fun ps z => nomatch z
theorem Kx.tup {H H' : Hp} {a : Addr} {xs : List V} (k : Kx H H') (h : H a = some (.tup xs)) : H' a = some (.tup xs) := k.o _ _ h fun ps z => nomatch z
theorem Kx.dt {H H' : Hp} {a : Addr} {kvs : List (List Key × V)} (k : Kx H H') (h : H a = some (.dT kvs)) : H' a = some (.dT kvs) := k.o _ _ h fun ps z => nomatch z
/-- a new object -/
theorem Kx.new {H : Hp} {p : Addr} {u : HO} (h : H p = none) : Kx H (upd H p u) := by
  refine ⟨fun b v e _ => ?_, fun P t => ?_, fun b e => ?_⟩
  · rw [upd_ne (ne_of_none e h)]
    exact e
  · obtain ⟨ps, e, t⟩ := t
    exact ⟨ps, by rw [upd_ne (ne_of_none e h)]; exact e, t⟩
  · by_cases hb : b = p
    · rw [hb, upd_same] at e
      cases e
    · rw [upd_ne hb] at e
      exact e
/-- an object that was not there ahead is changed -/
theorem Kx.mut {H H' : Hp} {p : Addr} {u : HO} (k : Kx H H') (h : H p = none) : Kx H (upd H' p u) := by
  refine ⟨fun b v e n => ?_, fun P t => ?_, fun b e => ?_⟩
  · rw [upd_ne (ne_of_none e h)]
    exact k.o b v e n
  · obtain ⟨ps, e, t1⟩ := t
    obtain ⟨qs, e2, t2⟩ := k.g P ⟨ps, e, t1⟩
    exact ⟨qs, by rw [upd_ne (ne_of_none e h)]; exact e2, t2⟩
  · by_cases hb : b = p
    · rw [hb, upd_same] at e
      cases e
    · rw [upd_ne hb] at e
      exact k.f b e
/-- the table at P has grown -/
theorem Kx.tab {H H' : Hp} {P : Addr} (t : TabG H P) (h : Tabbed P H H') : Kx H H' := by
  obtain ⟨ps, e, tr⟩ := t
  refine ⟨fun b u hb n => ?_, fun Q tq => ?_, fun b hb => ?_⟩
  · have nb : b ≠ P := fun z => n ps (Option.some.inj (hb.symm.trans (by rw [z]; exact e)))
    rw [h.2 b nb]
    exact hb
  · by_cases hq : Q = P
    · rw [hq]
      exact h.1
    · obtain ⟨qs, e2, t2⟩ := tq
      exact ⟨qs, by rw [h.2 Q hq]; exact e2, t2⟩
  · by_cases hq : b = P
    · obtain ⟨⟨qs, e2, _⟩, _⟩ := h
      rw [hq, e2] at hb
      cases hb
    · rw [h.2 b hq] at hb
      exact hb
theorem sq_of {K : PySem.W.Frag} {H : Hp} {a : Addr} {xs : List V} (h : H a = some (.lst xs)) : SqL K H a xs := .inl (.inl h)
theorem st_of {K : PySem.W.Frag} {H : Hp} {a : Addr} {xs : List V} (h : H a = some (.tup xs)) : SqT K H a xs := .inl (.inl h)
/-! ### a value's type -/
theorem tyx_tup {K : PySem.W.Frag} {H : Hp} {a : Addr} {xs : List V} (h : SqT K H a xs) : TyX K H (.ref a) (.type "tuple") := by
  rcases h with (h | ⟨o, h⟩) | ⟨o, _, _, h, c, _⟩
  · exact .base (.tup h)
  · exact .fTuple h
  · exact .kTuple h c
theorem tyx_lst {K : PySem.W.Frag} {H : Hp} {a : Addr} {xs : List V} (h : SqL K H a xs) : TyX K H (.ref a) (.type "list") := by
  rcases h with (h | ⟨o, h⟩) | ⟨o, _, _, h, c, _⟩
  · exact .base (.lst h)
  · exact .base (.frz h)
  · exact .kList h c
/-! ### a def of the head, called by its name -/
abbrev FnT (K : PySem.W.Frag) (x : Str) (st : Stmt) (f : Addr) (fd : FuncData) : Prop := FunD K x x (defArgs st) (defBody st) (defScope st) [] [] f fd
section
variable {P : Program} {w : World} {K : PySem.W.Frag} {mg : Str → Option Value} {base : Heap}
/-- what the head says of a def: its object, its place, its code object -/
structure DefT (K : PySem.W.Frag) (mg : Str → Option Value) (x : Str) (st : Stmt) (c : Addr) : Prop where
  ex : ∃ (f : Addr) (fd : FuncData), FnT K x st f fd ∧ mg x = some (.ref f) ∧ ∀ oc od osl fd', K.lookup f = some ⟨oc, od, .func fd', osl⟩ → fd'.code = .ref c
theorem cal_of {x : Str} {st : Stmt} {c : Addr} {N ps : List Str} {k : Nat} {sp : Sp} (D : DefT K mg x st c) (S : FnScope N ps (defScope st))
    (hb : ∀ (kV doc pm : Value) (an : Option Addr) (cdv ct : Value) (us : List Value), us.length = ps.length → bindArgs (PySem.W.fnOf x x (defArgs st) (defBody st) (defScope st) .none kV doc pm an cdv ct) ⟨us, []⟩ = pure (ps.zip us))
    (len : ∀ vs H Q E, sp vs H Q E → vs.length = ps.length)
    (hbody : ∀ (f : Addr) (A : Around) (outer : List Env) (s : Shared) (H : Hp) (vs : List V) (Q : VK) (E : XK), Room k (A.deeper (envOfC x (defScope st) s.heap.objs.size f (.ref c))) → sp vs H Q E →
      ∃ t, PSs (cxOf CX0 P w K mg base N x (defScope st) f (.ref c) A outer s H E).nox (defBody st) t ∧ t { nx := fun _ H' => Q .non H', rt := Q } (start N vs) H) : C8.Cal P w K mg base (k + 1) x sp [] := by
  obtain ⟨f, fd, F, hm, hc⟩ := D.ex
  refine ⟨f, fd, ps, [], ?_, hm, F.kp, FunD.bindsN F hb, .nil⟩
  obtain ⟨oc, od, dV, kV, doc, pm, an, cdv, ct, osl, rfl, lk, hcd, _, _⟩ := F.ex
  obtain rfl : cdv = .ref c := hc _ _ _ _ lk
  refine fn_of lk hcd S len fun A outer s H vs Q E hr hsp => ?_
  obtain ⟨t, h, q⟩ := hbody f A outer s H vs Q E hr hsp
  exact ⟨t, h.nox, q⟩
end
/-! ### small steps -/
theorem iteB {b : Bool} {A B : Prop} (h1 : b = true → A) (h2 : b = false → B) : if b = true then A else B := by
  cases b with
  | true => exact iteT (h1 rfl)
  | false => exact iteF (h2 rfl)
theorem small80 {n : Nat} (h : n ≤ 100000) : n ≤ sizeLine := Nat.le_trans h (by decide)
theorem lt80 {n : Nat} (h : n < 100000) : n < sizeLine := Nat.lt_of_lt_of_le h (by decide)
end CH
end

section
set_option Elab.async false
set_option linter.all false
set_option maxRecDepth 100000
set_option maxHeartbeats 4000000
/-! defs that may raise -/
namespace CH
open PySem PySem.Spec PyProof.Rows L2
section
variable {P : Program} {w : World} {K : PySem.W.Frag} {mg : Str → Option Value} {base : Heap}
/-- a def that may be called by its name, and may raise -/
structure CalX (P : Program) (w : World) (K : PySem.W.Frag) (mg : Str → Option Value) (base : Heap) (k : Nat) (x : Str) (sp : Sp) : Prop where
  ex : ∃ (f : Addr) (fd : FuncData) (ps : List Str), FnOk P w K mg base (L2N.CX P w) k f fd ps sp ∧ mg x = some (.ref f) ∧ PySem.W.keepIn K (.ref f) = true ∧ Binds K fd ps []
theorem calX_of {x : Str} {st : Stmt} {c : Addr} {N ps : List Str} {k : Nat} {sp : Sp} (D : DefT K mg x st c) (S : FnScope N ps (defScope st))
    (hb : ∀ (kV doc pm : Value) (an : Option Addr) (cdv ct : Value) (us : List Value), us.length = ps.length → bindArgs (PySem.W.fnOf x x (defArgs st) (defBody st) (defScope st) .none kV doc pm an cdv ct) ⟨us, []⟩ = pure (ps.zip us))
    (len : ∀ vs H Q E, sp vs H Q E → vs.length = ps.length)
    (hbody : ∀ (f : Addr) (A : Around) (outer : List Env) (s : Shared) (H : Hp) (vs : List V) (Q : VK) (E : XK), Room k (A.deeper (envOfC x (defScope st) s.heap.objs.size f (.ref c))) → sp vs H Q E →
      ∃ t, PSs (cxOf (L2N.CX P w) P w K mg base N x (defScope st) f (.ref c) A outer s H E) (defBody st) t ∧ t { nx := fun _ H' => Q .non H', rt := Q } (start N vs) H) : CalX P w K mg base (k + 1) x sp := by
  obtain ⟨f, fd, F, hm, hc⟩ := D.ex
  refine ⟨f, fd, ps, ?_, hm, F.kp, FunD.bindsN F hb⟩
  obtain ⟨oc, od, dV, kV, doc, pm, an, cdv, ct, osl, rfl, lk, hcd, _, _⟩ := F.ex
  obtain rfl : cdv = .ref c := hc _ _ _ _ lk
  exact fn_of lk hcd S len fun A outer s H vs Q E hr hsp => hbody f A outer s H vs Q E hr hsp
theorem cx_e0 {outer : List Env} {H : Hp} {s s' : Shared} {e : Value} (h : L2N.CX P w outer H s C8.E0 e s') : False := by
  obtain ⟨_, _, _, _, _, _, _, _, _, _, _, _, z⟩ := h
  exact z
theorem takesN0 {X : Cx} : L2N.Takes X (fun _ _ _ _ => False) := fun _ _ ⟨_, _, _, _, _, _, _, _, _, _, _, _, _, _, _, _, z⟩ => z.elim
/-- .. where it does not raise -/
theorem CalX.cal {k : Nat} {x : Str} {sp sp' : Sp} (c : CalX P w K mg base k x sp) (h : ∀ vs H Q E, sp' vs H Q E → sp vs H Q C8.E0) : C8.Cal P w K mg base k x sp' [] := by
  obtain ⟨f, fd, ps, F, hm, kp, b⟩ := c.ex
  refine ⟨f, fd, ps, [], ⟨fun vs H Q E q => F.len vs H Q _ (h _ _ _ _ q), fun A outer s H args us vs Q E hr he hb hv hs => ?_⟩, hm, kp, b, .nil⟩
  refine codeAny_mono (F.run A outer s H args us vs Q C8.E0 hr he hb hv (h _ _ _ _ hs)) fun r s' q => ?_
  cases r with
  | ok f => cases f <;> exact q
  | error e => exact (cx_e0 q).elim
end
section
variable {X : Cx} {k j : Nat} {x : Str} {sp : Sp} {p pos : Pos} {e : Expr} {es : List Expr} {t : TA} {E : XK} {W : WX}
theorem pe_c0 {dvs : List V} (c : C8.Cal X.prog X.w X.K X.mg X.base k x sp dvs) (hr : Room j X.A) (hk : k ≤ j) (hg : Gl X x) (hdb : (x == ("__debug__" : Str)) = false := by decide) : PE X (.Call (.Name x p) [] [] pos) (tCall sp dvs C8.E0 tNil) := by
  obtain ⟨f, fd, ps, ds, F, hm, kp, b, d⟩ := c.ex
  exact pe_call0 F (hr.mono hk) hg hm kp b d C8.pass0 hdb
/-- a call; what it raises leaves the def -/
theorem pe_cX (c : CalX X.prog X.w X.K X.mg X.base k x sp) (hr : Room j X.A) (hk : k ≤ j) (hg : Gl X x) (tk : L2N.Takes X (fun cls d _ H => E cls d H)) (ha : PA X (e :: es) t)
    (hdb : (x == ("__debug__" : Str)) = false := by decide) (he : starEach (e :: es) X.env = (false, eval e X.env) :: starEach es X.env := by rfl) (hpl : (backTo pos (starEach es X.env)).any (·.1) = false := by rfl) :
    PE X (.Call (.Name x p) (e :: es) [] pos) (tCall sp [] E t) := by
  obtain ⟨f, fd, ps, F, hm, kp, b⟩ := c.ex
  exact pe_call F (hr.mono hk) hg hm kp b .nil (L2N.passes_call tk fun _ _ _ _ h => h) ha hdb he hpl
/-- .. what it raises goes to the try around -/
theorem pe_cS (c : CalX X.prog X.w X.K X.mg X.base k x sp) (hr : Room j X.A) (hk : k ≤ j) (hg : Gl X x) (tk : L2N.Takes X W) (ha : PA X (e :: es) t)
    (hdb : (x == ("__debug__" : Str)) = false := by decide) (he : starEach (e :: es) X.env = (false, eval e X.env) :: starEach es X.env := by rfl) (hpl : (backTo pos (starEach es X.env)).any (·.1) = false := by rfl) :
    PE X (.Call (.Name x p) (e :: es) [] pos) (tCallS sp (WE W) t) := by
  obtain ⟨f, fd, ps, F, hm, kp, b⟩ := c.ex
  exact pe_callS F (hr.mono hk) hg hm kp b (fun σ => L2N.passAt tk σ) ha hdb he hpl
/-- the suite of a clause, by the error's own class -/
theorem pss_exc {K : PySem.W.Frag} {ss : List Stmt} {cls : Value} {d : Option Addr} {t : Addr → TS} (h : ∀ D0, cls = .ref D0 → d = none → ExcC K D0 → PSs X ss (t D0)) : PSs X ss (fun D σ H => ∃ D0, cls = .ref D0 ∧ d = none ∧ ExcC K D0 ∧ t D0 D σ H) :=
  ⟨fun pins s σ H D I q => by
    obtain ⟨D0, e1, e2, C, q⟩ := q
    exact (h D0 e1 e2 C).run pins s σ H D I q⟩
end
theorem call_isE1 {K : PySem.W.Frag} {X : Cx} {a D0 : Addr} {oe : Obj} {pn : List (Addr × Obj)} {cls : Value} {d : Option Addr} (C : ExcC K D0) (hz : Zc cls d oe) (hf : ∃ vs, oe.data = .fields vs) (ec : cls = .ref D0) (ed : d = none) (hK : X.K = K := by rfl) : CallR (X.suite a ((a, oe) :: pn)) (.builtin "isinstance") (rIsE K D0 a) := by
  subst ec ed
  subst hK
  exact call_isE C hz hf
/-- an own class of errors -/
structure Exn (K : PySem.W.Frag) (mg : Str → Option Value) (x : Str) (C : Addr) : Prop where
  g : mg x = some (.ref C)
  q : PySem.W.excIn K C [.type "ValueError", .type "Exception", .type "BaseException", .type "object"] "ValueError.__new__" = true
  k : PySem.W.keepIn K (.ref C) = true
  b : PySem.W.subIn K (.ref C) (.type "BaseException") = some true
  t : PySem.W.typeIn K (.ref C) = some (.type "type")
  c : ExcC K C
theorem Exn.cv {K : PySem.W.Frag} {mg : Str → Option Value} {x : Str} {C : Addr} (e : Exn K mg x C) : ∃ u, mg x = some u ∧ RelV (.ref C) u := ⟨_, e.g, rfl⟩
/-- no test stands -/
theorem yesT {σ : L2.St} {H : Hp} {A B : Hp → Prop} (h : A H) : tYes σ H fun b H3 => if b = true then A H3 else B H3 := by
  show if true = true then A H else B H
  rw [if_pos rfl]
  exact h
end CH
end

section
set_option Elab.async false
set_option linter.all false
set_option maxRecDepth 100000
set_option maxHeartbeats 4000000
/-! how many unlike ones a list of whole numbers has -/
namespace CH
open PySem PySem.Spec PyProof.Rows L2
def rLenK (K : PySem.W.Frag) : List V → Hp → VK → Prop := fun xs H Q => ∃ p ys, xs = [V.ref p] ∧ (SqL K H p ys ∨ SqT K H p ys) ∧ Q (.int ys.length) H
/-- the first i of ns, each once -/
def met (ns : List Int) (i : Nat) : List Int := firstMet (fun j => ns.getD j 0) i
theorem met_succ (ns : List Int) (i : Nat) : met ns (i + 1) = if (met ns i).any (· == ns.getD i 0) then met ns i else met ns i ++ [ns.getD i 0] := firstMet_succ _ _
theorem met_spec {ns : List Int} : ∀ i, i ≤ ns.length → (∀ x, x ∈ met ns i ↔ x ∈ ns.take i) ∧ (met ns i).length ≤ i ∧ ((met ns i).length = i ↔ (ns.take i).Nodup)
  | 0, _ => ⟨fun x => by rw [List.take_zero]; exact Iff.rfl, Nat.le_refl 0, ⟨fun _ => by rw [List.take_zero]; exact List.Pairwise.nil, fun _ => rfl⟩⟩
  | i + 1, hi => by
    have hlt : i < ns.length := hi
    obtain ⟨m1, m2, m3⟩ := met_spec i (Nat.le_of_lt hlt)
    have e1 : ns.getD i 0 = ns[i] := by
      rw [List.getD_eq_getElem?_getD, List.getElem?_eq_getElem hlt] <;> rfl
    have e2 : ns.take (i + 1) = ns.take i ++ [ns[i]] := by
      rw [List.take_add_one, List.getElem?_eq_getElem hlt] <;> rfl
    rw [met_succ, e1, e2]
    by_cases h : ns[i] ∈ ns.take i
    · have a : ((met ns i).any (· == ns[i])) = true := List.any_eq_true.mpr ⟨ns[i], (m1 _).mpr h, by simp⟩
      rw [if_pos a]
      refine ⟨fun x => ?_, by omega, ⟨fun z => ?_, fun z => ?_⟩⟩
      · rw [m1 x, List.mem_append, List.mem_singleton]
        exact ⟨.inl, fun z => z.elim id fun e => e ▸ h⟩
      · omega
      · obtain ⟨_, _, z⟩ := List.pairwise_append.mp z
        exact absurd rfl (z _ h _ (by simp))
    · have a : ¬ ((met ns i).any (· == ns[i])) = true := fun z => by
        obtain ⟨y, hy, ey⟩ := List.any_eq_true.mp z
        rw [eq_of_beq ey] at hy
        exact h ((m1 _).mp hy)
      rw [if_neg a]
      refine ⟨fun x => ?_, by rw [List.length_append]; show _ + 1 ≤ _; omega, ?_⟩
      · rw [List.mem_append, List.mem_append, m1 x]
      · rw [List.length_append]
        show (met ns i).length + 1 = i + 1 ↔ _
        constructor
        · intro z
          refine List.pairwise_append.mpr ⟨m3.mp (by omega), List.pairwise_singleton _ _, fun x hx y hy e => ?_⟩
          rw [List.mem_singleton.mp hy] at e
          exact h (e ▸ hx)
        · intro z
          have := m3.mpr (List.pairwise_append.mp z).1
          omega
/-- how many unlike ones -/
def dis (ns : List Int) : Nat := (met ns ns.length).length
theorem dis_le (ns : List Int) : dis ns ≤ ns.length := (met_spec (ns := ns) ns.length (Nat.le_refl _)).2.1
theorem dis_eq (ns : List Int) : dis ns = ns.length ↔ ns.Nodup := by
  have h := (met_spec (ns := ns) ns.length (Nat.le_refl _)).2.2
  rw [List.take_length] at h
  exact h
def tLenSetG (K : PySem.W.Frag) (ta : TE) : TE := fun σ H Q => ta σ H fun x H1 => ∃ (l : Addr) (ns : List Int), x = .ref l ∧ SqL K H1 l (ns.map V.int) ∧ ns.length ≤ 4000 ∧ Q (.int (dis ns : Int)) H1
theorem pe_lenSetG {X : Cx} {a : Expr} {ta : TE} {p p2 q pos : Pos} (hg : Gl X "len") (hm : X.mg "len" = none) (hg2 : Gl X "set") (hm2 : X.mg "set" = none) (ha : PE X a ta) (hc : X.calm = true := by rfl)
    (na : starEach [a] X.env = (false, eval a X.env) :: starEach [] X.env := by rfl) : PE X (.Call (.Name "len" p) [.Call (.Name "set" p2) [a] [] q] [] pos) (tLenSetG X.K ta) := by
  refine ⟨fun pins s σ H Q I h => ?_⟩
  refine Call_ (ld_blt I hg hm boot_len ?_)
  refine PyProof.Rows.callWith_builtin1 (PyProof.Rows.args_cons ?_ rfl) rfl rfl
  refine Call_ (ld_blt I hg2 hm2 boot_set ?_)
  refine PyProof.Rows.callWith_type1 (PyProof.Rows.args_cons (thn (ha.run pins s σ H _ I h) fun v s1 ⟨x, H1, I1, r1, q1⟩ => PyProof.Rows.args_nil ?_) na) na rfl
  obtain ⟨l, ns, rfl, hq, hl, q1⟩ := q1
  cases r1
  obtain ⟨its, r, pl, hz⟩ := I1.list hq
  have hlen : its.toArray.size = ns.length := by rw [List.size_toArray, ← r.length, List.length_map]
  refine call_set_list (I1.ok.hd hc) pl.isList (by simpa using RZ.intsAre_vals r) (by rw [hlen]; unfold scanBound; omega) fun h' tk hS hk => ?_
  refine PyProof.Rows.args_nil ?_
  rw [hlen] at hS
  obtain ⟨m1, m2, m3⟩ := met_spec (ns := ns) ns.length (Nat.le_refl _)
  rw [List.take_length] at m3
  obtain ⟨o, es, ep, t, ho, hex, hd, _, _, _, hf, hn⟩ := hS
  have hn' : _ = (met ns ns.length).length := hn
  have I2 : Inv X pins σ H1 { s1 with heap := h', toks := tk } := I1.kept fun b o e => hk b o (Heap.lt_size e) e
  exact call_len_set ho hex hd hf (by rw [hn'] <;> omega) ⟨.int (met ns ns.length).length, H1, I2.tok _, ⟨_, by rw [hn']⟩, q1⟩
/-- [g(x) for x in ns], truths -/
theorem lc_bools {K : PySem.W.Frag} {a : Addr} {ns : List Int} {i : Nat} {te : TE} {vs : List Nat} {σ : L2.St} {H0 : Hp} {D : Addr} {Qd : Hp → Prop} (g : Int → Bool) (hl : SqL K H0 a (ns.map V.int)) (nD : H0 D = none) (h4 : ns.length ≤ 4000)
    (hw : ∀ x, wipe ((wipe σ vs).set i (some (.int x))) vs = wipe σ vs)
    (hs : ∀ x H3, x ∈ ns → Kx H0 H3 → ∀ Q : VK, (∀ H4, Kx H3 H4 → Q (.bl (g x)) H4) → te ((wipe σ vs).set i (some (.int x))) H3 Q)
    (hd : ∀ H3, Kx H0 H3 → H3 D = some (.lst ((ns.map g).map V.bl)) → Qd H3) :
    ∃ W : Nat → Nat → Hp → Prop, (∃ m, W 0 m (upd H0 D (.lst []))) ∧ ∀ i1 m H, W i1 m H →
      ((Itl K a).stop i1 H ∧ Qd H) ∨ ((Itl K a).go i1 H ∧ ∃ Nx : Hp → Prop, (∀ H', Nx H' → ∃ m', m' < m ∧ W (i1 + 1) m' H') ∧ ∀ x H', (Itl K a).yld i1 H x H' → gName i x (wipe σ vs) H' fun σ2 H2 => wipe σ2 vs = wipe σ vs ∧ tYes σ2 H2 fun b H3 =>
        if b = true then te σ2 H3 fun y H4 => ∃ acc, H4 D = some (.lst acc) ∧ acc.length < sizeLine ∧ Nx (upd H4 D (.lst (acc ++ [y]))) else Nx H3) := by
  refine lc_list (K := K) (a := a) (xs := ns.map V.int) (fun j H3 => Kx H0 H3 ∧ H3 D = some (.lst (((ns.take j).map g).map V.bl))) ⟨Kx.new nD, upd_same⟩ (fun j H3 _ h => h.1.l hl) ?_ ?_
  · rintro j y H3 hj ⟨k3, hD⟩
    obtain ⟨x, hx, rfl⟩ : ∃ x, ns[j]? = some x ∧ V.int x = y := by
      rw [List.getElem?_map] at hj
      exact Option.map_eq_some_iff.mp hj
    have e1 : ns.take (j + 1) = ns.take j ++ [x] := by rw [List.take_add_one, hx] <;> rfl
    refine ⟨hw x, yesT ?_⟩
    refine hs x H3 (List.mem_of_getElem? hx) k3 _ fun H4 k4 => ⟨_, k4.lst hD, ?_, (k3.trans k4).mut nD, ?_⟩
    · rw [List.length_map, List.length_map, List.length_take]
      exact lt80 (by omega)
    · rw [upd_same, e1, List.map_append, List.map_append] <;> rfl
  · rintro H3 ⟨k3, hD⟩
    rw [List.length_map, List.take_length] at hD
    exact hd H3 k3 hD
theorem all_map (g : Int → Bool) (ns : List Int) : (ns.map g).all id = ns.all g := by rw [List.all_map] <;> rfl
theorem any_map (g : Int → Bool) (ns : List Int) : (ns.map g).any id = ns.any g := by rw [List.any_map] <;> rfl
/-- [φ for x, y in zip(xs, ys)] -/
theorem lc_zipF {K : PySem.W.Frag} {a b : Addr} {xs ys : List V} {s1 s2 : Nat} {te : TE} {vs : List Nat} {σ : L2.St} {H0 : Hp} {D : Addr} {Qd : Hp → Prop} (φ : Nat → V) (hl : xs.length = ys.length) (h4 : xs.length ≤ 4000) (ha : SqL K H0 a xs) (hb : SqL K H0 b ys) (nD : H0 D = none)
    (hw : ∀ x y, wipe (((wipe σ vs).set s1 (some x)).set s2 (some y)) vs = wipe σ vs)
    (hs : ∀ (i : Nat) (x y : V) (T : Addr) (H3 : Hp), xs[i]? = some x → ys[i]? = some y → Kx H0 H3 → H3 T = none → ∀ Q : VK, (∀ H4, Kx (upd H3 T (.tup [x, y])) H4 → Q (φ i) H4) → te (((wipe σ vs).set s1 (some x)).set s2 (some y)) (upd H3 T (.tup [x, y])) Q)
    (hd : ∀ H3, Kx H0 H3 → H3 D = some (.lst ((List.range xs.length).map φ)) → Qd H3) :
    ∃ W : Nat → Nat → Hp → Prop, (∃ m, W 0 m (upd H0 D (.lst []))) ∧ ∀ i1 m H, W i1 m H →
      ((Itz K a b).stop i1 H ∧ Qd H) ∨ ((Itz K a b).go i1 H ∧ ∃ Nx : Hp → Prop, (∀ H', Nx H' → ∃ m', m' < m ∧ W (i1 + 1) m' H') ∧ ∀ x H', (Itz K a b).yld i1 H x H' → gTup K 2 (gCons (gName s1) (gCons (gName s2) gNil)) x (wipe σ vs) H' fun σ2 H2 => wipe σ2 vs = wipe σ vs ∧ tYes σ2 H2 fun b H3 =>
        if b = true then te σ2 H3 fun y H4 => ∃ acc, H4 D = some (.lst acc) ∧ acc.length < sizeLine ∧ Nx (upd H4 D (.lst (acc ++ [y]))) else Nx H3) := by
  refine ⟨fun i m H => m = xs.length - i ∧ i ≤ xs.length ∧ Kx H0 H ∧ H D = some (.lst ((List.range i).map φ)), ⟨xs.length, rfl, Nat.zero_le _, Kx.new nD, upd_same⟩, ?_⟩
  rintro i m H ⟨rfl, hi, k3, hD⟩
  have qx := k3.l ha
  have qy := k3.l hb
  by_cases hlt : i < xs.length
  · have hx : xs[i]? = some xs[i] := List.getElem?_eq_getElem hlt
    have hlt2 : i < ys.length := by omega
    have hy : ys[i]? = some ys[i] := List.getElem?_eq_getElem hlt2
    refine .inr ⟨⟨xs, ys, _, _, qx, qy, hx, hy⟩, fun H' => Kx H0 H' ∧ H' D = some (.lst ((List.range (i + 1)).map φ)), fun H' p' => ⟨xs.length - (i + 1), by omega, rfl, hlt, p'.1, p'.2⟩, fun v H' y => ?_⟩
    obtain ⟨T, x', y', rfl, hT, rfl, f1, f2⟩ := y
    have ht : (upd H T (.tup [x', y'])) T = some (.tup [x', y']) := upd_same
    have kT : Kx H (upd H T (.tup [x', y'])) := Kx.new hT
    refine ⟨T, _, rfl, st_of ht, rfl, _, _, rfl, _, _, rfl, rfl, hw x' y', yesT ?_⟩
    refine hs i x' y' T H (f1 xs qx) (f2 ys qy) k3 hT _ fun H4 k4 => ⟨_, (kT.trans k4).lst hD, ?_, ((k3.trans kT).trans k4).mut nD, ?_⟩
    · rw [List.length_map, List.length_range]
      exact lt80 (by omega)
    · rw [upd_same, List.range_succ, List.map_append] <;> rfl
  · have e : i = xs.length := by omega
    subst e
    exact .inl ⟨⟨xs, ys, qx, qy, Or.inl (Nat.le_refl _)⟩, hd H k3 hD⟩
/-- for i, x in enumerate(xs) -/
theorem for_enumL {K : PySem.W.Frag} {a : Addr} {xs : List V} {g : TG} {tb : TS} {D : Ends} {σ : L2.St} {H : Hp} (Pv : Nat → L2.St → Hp → Prop) (h0 : Pv 0 σ H) (hl : ∀ i σ H, Pv i σ H → SqL K H a xs)
    (hs : ∀ (i : Nat) (x : V) (T : Addr) (σ : L2.St) (H : Hp), xs[i]? = some x → Pv i σ H → H T = none → g (.ref T) σ (upd H T (.tup [.int (i : Nat), x])) fun σ2 H2 => tb { D with nx := Pv (i + 1), ct := Pv (i + 1), bk := D.nx } σ2 H2) (hd : ∀ σ H, Pv xs.length σ H → D.nx σ H) :
    ∃ W : Nat → Nat → L2.St → Hp → Prop, (∃ m, W 0 m σ H) ∧ ∀ i m σ H, W i m σ H →
      ((Ite K a).stop i H ∧ D.nx σ H) ∨ ((Ite K a).go i H ∧ ∃ N : L2.St → Hp → Prop, (∀ σ' H', N σ' H' → ∃ m', m' < m ∧ W (i + 1) m' σ' H') ∧ ∀ v H', (Ite K a).yld i H v H' → g v σ H' fun σ2 H2 => tb { D with nx := N, ct := N, bk := D.nx } σ2 H2) := by
  refine ⟨fun i m σ H => m = xs.length - i ∧ i ≤ xs.length ∧ Pv i σ H, ⟨xs.length, rfl, Nat.zero_le _, h0⟩, ?_⟩
  rintro i m σ H ⟨rfl, hi, p⟩
  have qx := hl i σ H p
  by_cases hlt : i < xs.length
  · have hx : xs[i]? = some xs[i] := List.getElem?_eq_getElem hlt
    refine .inr ⟨⟨xs, _, qx, hx⟩, Pv (i + 1), fun σ' H' p' => ⟨xs.length - (i + 1), by omega, rfl, hlt, p'⟩, fun v H' y => ?_⟩
    obtain ⟨T, x', rfl, hT, rfl, f1⟩ := y
    exact hs i x' T σ H (f1 xs qx) p hT
  · have e : i = xs.length := by omega
    subst e
    exact .inl ⟨⟨xs, qx, Nat.le_refl _⟩, hd σ H p⟩
end CH
end

section
set_option Elab.async false
set_option linter.all false
set_option maxRecDepth 100000
set_option maxHeartbeats 4000000
/-! defs with defaults, methods, own classes -/
namespace CH
open PySem PySem.Spec PyProof.Rows L2
abbrev FnQ (K : PySem.W.Frag) (x qual : Str) (st : Stmt) (dvs : List V) (f : Addr) (fd : FuncData) : Prop := FunD K x qual (defArgs st) (defBody st) (defScope st) dvs [] f fd
/-- the code object of the function at f -/
def CodeAt (K : PySem.W.Frag) (f c : Addr) : Prop := ∀ oc od osl fd', K.lookup f = some ⟨oc, od, .func fd', osl⟩ → fd'.code = .ref c
/-- a def with defaults -/
structure DefQ (K : PySem.W.Frag) (mg : Str → Option Value) (x : Str) (st : Stmt) (dvs : List V) (c : Addr) : Prop where
  ex : ∃ (f : Addr) (fd : FuncData), FnQ K x x st dvs f fd ∧ mg x = some (.ref f) ∧ CodeAt K f c
/-- a method of an own class -/
structure MetT (K : PySem.W.Frag) (C : Addr) (m qual : Str) (st : Stmt) (c : Addr) : Prop where
  ex : ∃ (f : Addr) (fd : FuncData), FnQ K m qual st [] f fd ∧ Meth K C m f ∧ Cls K C ∧ CodeAt K f c
/-- an own class with its __init__ -/
structure MakT (K : PySem.W.Frag) (mg : Str → Option Value) (x : Str) (C : Addr) (qual : Str) (st : Stmt) (c : Addr) : Prop where
  ex : ∃ (f : Addr) (fd : FuncData), FnQ K "__init__" qual st [] f fd ∧ Mk K C f ∧ mg x = some (.ref C) ∧ CodeAt K f c
/-- what of a class its objects want -/
structure Own (K : PySem.W.Frag) (mg : Str → Option Value) (x : Str) (C : Addr) : Prop where
  g : mg x = some (.ref C)
  cl : Cls K C
  ha : PySem.W.findIn K (.ref C) "__class__" = some (some (.builtin "object.__class__"))
  hn : PySem.W.specialIn K (.builtin "object.__class__") "__get__" = some (some (.builtin "getset_descriptor.__get__"))
  htk : PySem.W.takesIn K (.builtin "object.__class__") = some true
  hm : PySem.W.mroIn K C (.type "object") = some true
theorem Own.cv {K : PySem.W.Frag} {mg : Str → Option Value} {x : Str} {C : Addr} (e : Own K mg x C) : ∃ u, mg x = some u ∧ RelV (.ref C) u := ⟨_, e.g, rfl⟩
theorem Own.ty {K : PySem.W.Frag} {mg : Str → Option Value} {x : Str} {C : Addr} (e : Own K mg x C) {H : Hp} {a dx : Addr} {fs : List (Str × V)} (h : H a = some (.ins C dx fs)) : TyX K H (.ref a) (.ref C) := .base (.ins h e.cl e.ha e.hn e.htk e.hm)
section
variable {P : Program} {w : World} {K : PySem.W.Frag} {mg : Str → Option Value} {base : Heap}
abbrev Bodies (CX : CXT) (P : Program) (w : World) (K : PySem.W.Frag) (mg : Str → Option Value) (base : Heap) (N : List Str) (qual : Str) (st : Stmt) (c : Addr) (k : Nat) (sp : Sp) : Prop :=
  ∀ (f : Addr) (A : Around) (outer : List Env) (s : Shared) (H : Hp) (vs : List V) (Q : VK) (E : XK), Room k (A.deeper (envOfC qual (defScope st) s.heap.objs.size f (.ref c))) → sp vs H Q E →
      ∃ t, PSs (cxOf CX P w K mg base N qual (defScope st) f (.ref c) A outer s H E) (defBody st) t ∧ t { nx := fun _ H' => Q .non H', rt := Q } (start N vs) H
abbrev Bodies0 (P : Program) (w : World) (K : PySem.W.Frag) (mg : Str → Option Value) (base : Heap) (N : List Str) (qual : Str) (st : Stmt) (c : Addr) (k : Nat) (sp : Sp) : Prop :=
  ∀ (f : Addr) (A : Around) (outer : List Env) (s : Shared) (H : Hp) (vs : List V) (Q : VK) (E : XK), Room k (A.deeper (envOfC qual (defScope st) s.heap.objs.size f (.ref c))) → sp vs H Q E →
      ∃ t, PSs (cxOf CX0 P w K mg base N qual (defScope st) f (.ref c) A outer s H E).nox (defBody st) t ∧ t { nx := fun _ H' => Q .non H', rt := Q } (start N vs) H
theorem fnq {CX : CXT} {x qual : Str} {st : Stmt} {dvs : List V} {f c : Addr} {fd : FuncData} {N ps : List Str} {k : Nat} {sp : Sp} (F : FnQ K x qual st dvs f fd) (hc : CodeAt K f c) (S : FnScope N ps (defScope st)) (len : ∀ vs H Q E, sp vs H Q E → vs.length = ps.length)
    (hbody : Bodies CX P w K mg base N qual st c k sp) : FnOk P w K mg base CX (k + 1) f fd ps sp := by
  obtain ⟨oc, od, dV, kV, doc, pm, an, cdv, ct, osl, rfl, lk, hcd, _, _⟩ := F.ex
  obtain rfl : cdv = .ref c := hc _ _ _ _ lk
  exact fn_of lk hcd S len fun A outer s H vs Q E hr hsp => hbody f A outer s H vs Q E hr hsp
theorem Bodies0.x {N : List Str} {qual : Str} {st : Stmt} {c : Addr} {k : Nat} {sp : Sp} (h : Bodies0 P w K mg base N qual st c k sp) : Bodies CX0 P w K mg base N qual st c k sp := fun f A outer s H vs Q E hr hs => by
  obtain ⟨t, a, b⟩ := h f A outer s H vs Q E hr hs
  exact ⟨t, a.nox, b⟩
abbrev BindF (ps : List Str) (x qual : Str) (st : Stmt) : Prop :=
  ∀ (kV doc pm : Value) (an : Option Addr) (cdv ct : Value) (us : List Value), us.length = ps.length → bindArgs (PySem.W.fnOf x qual (defArgs st) (defBody st) (defScope st) .none kV doc pm an cdv ct) ⟨us, []⟩ = pure (ps.zip us)
/-- defaults from the j-th on fill up what is not written -/
abbrev BindD (ps : List Str) (x qual : Str) (st : Stmt) (n j m : Nat) : Prop :=
  ∀ (T : Addr) (kV doc pm : Value) (an : Option Addr) (cdv ct : Value) (us its : List Value), us.length = n → its.length = m →
      ∃ k, bindArgs (PySem.W.fnOf x qual (defArgs st) (defBody st) (defScope st) (.ref T) kV doc pm an cdv ct) ⟨us, []⟩ = seqItems? (.ref T) >>= k ∧ k (some its.toArray) = pure (ps.zip (us ++ its.drop j))
theorem calQ_of {x : Str} {st : Stmt} {dvs : List V} {c : Addr} {N ps : List Str} {k n j : Nat} {sp : Sp} (D : DefQ K mg x st dvs c) (S : FnScope N ps (defScope st)) (hd : dvs ≠ []) (hn : n + (dvs.length - j) = ps.length) (hb : BindD ps x x st n j dvs.length)
    (len : ∀ vs H Q E, sp vs H Q E → vs.length = ps.length) (hbody : Bodies0 P w K mg base N x st c k sp) : C8.Cal P w K mg base (k + 1) x sp (dvs.drop j) := by
  obtain ⟨f, fd, F, hm, hc⟩ := D.ex
  obtain ⟨ds, r, b⟩ := F.binds1 n j hd hn hb
  exact ⟨f, fd, ps, ds, fnq F hc S len hbody.x, hm, F.kp, b, r⟩
theorem met_of {C : Addr} {m qual : Str} {st : Stmt} {c : Addr} {N ps : List Str} {k : Nat} {sp : Sp} (D : MetT K C m qual st c) (S : FnScope N ps (defScope st)) (hb : BindF ps m qual st)
    (len : ∀ vs H Q E, sp vs H Q E → vs.length = ps.length) (hbody : Bodies0 P w K mg base N qual st c k sp) : C8.Met P w K mg base (k + 1) C m sp [] := by
  obtain ⟨f, fd, F, hm, cl, hc⟩ := D.ex
  exact ⟨f, fd, ps, [], cl, hm, fnq F hc S len hbody.x, FunD.bindsN F hb, .nil⟩
theorem mak_of {x : Str} {C : Addr} {qual : Str} {st : Stmt} {c : Addr} {N ps : List Str} {k : Nat} {sp : Sp} (D : MakT K mg x C qual st c) (S : FnScope N ps (defScope st)) (hb : BindF ps "__init__" qual st)
    (len : ∀ vs H Q E, sp vs H Q E → vs.length = ps.length) (hbody : Bodies0 P w K mg base N qual st c k sp) : C8.Mak P w K mg base (k + 1) x C sp [] := by
  obtain ⟨f, fd, F, hm, hg, hc⟩ := D.ex
  exact ⟨f, fd, ps, [], hm, fnq F hc S len hbody.x, hg, FunD.bindsN F hb, .nil⟩
/-- a method that may raise -/
structure MetX (P : Program) (w : World) (K : PySem.W.Frag) (mg : Str → Option Value) (base : Heap) (k : Nat) (C : Addr) (m : Str) (sp : Sp) : Prop where
  ex : ∃ (f : Addr) (fd : FuncData) (ps : List Str), Cls K C ∧ Meth K C m f ∧ FnOk P w K mg base (L2N.CX P w) k f fd ps sp ∧ Binds K fd ps []
theorem metX_of {C : Addr} {m qual : Str} {st : Stmt} {c : Addr} {N ps : List Str} {k : Nat} {sp : Sp} (D : MetT K C m qual st c) (S : FnScope N ps (defScope st)) (hb : BindF ps m qual st)
    (len : ∀ vs H Q E, sp vs H Q E → vs.length = ps.length) (hbody : Bodies (L2N.CX P w) P w K mg base N qual st c k sp) : MetX P w K mg base (k + 1) C m sp := by
  obtain ⟨f, fd, F, hm, cl, hc⟩ := D.ex
  exact ⟨f, fd, ps, cl, hm, fnq F hc S len hbody, FunD.bindsN F hb⟩
/-- .. where it does not raise -/
theorem MetX.met {k : Nat} {C : Addr} {m : Str} {sp sp' : Sp} (c : MetX P w K mg base k C m sp) (h : ∀ vs H Q E, sp' vs H Q E → sp vs H Q C8.E0) : C8.Met P w K mg base k C m sp' [] := by
  obtain ⟨f, fd, ps, cl, hm, F, b⟩ := c.ex
  refine ⟨f, fd, ps, [], cl, hm, ⟨fun vs H Q E q => F.len vs H Q _ (h _ _ _ _ q), fun A outer s H args us vs Q E hr he hb hv hs => ?_⟩, b, .nil⟩
  refine codeAny_mono (F.run A outer s H args us vs Q C8.E0 hr he hb hv (h _ _ _ _ hs)) fun r s' q => ?_
  cases r with
  | ok f => cases f <;> exact q
  | error e => exact (cx_e0 q).elim
/-- a class whose __init__ may raise -/
structure MakX (P : Program) (w : World) (K : PySem.W.Frag) (mg : Str → Option Value) (base : Heap) (k : Nat) (x : Str) (C : Addr) (sp : Sp) : Prop where
  ex : ∃ (f : Addr) (fd : FuncData) (ps : List Str), Mk K C f ∧ FnOk P w K mg base (L2N.CX P w) k f fd ps sp ∧ mg x = some (.ref C) ∧ Binds K fd ps []
theorem makX_of {x : Str} {C : Addr} {qual : Str} {st : Stmt} {c : Addr} {N ps : List Str} {k : Nat} {sp : Sp} (D : MakT K mg x C qual st c) (S : FnScope N ps (defScope st)) (hb : BindF ps "__init__" qual st)
    (len : ∀ vs H Q E, sp vs H Q E → vs.length = ps.length) (hbody : Bodies (L2N.CX P w) P w K mg base N qual st c k sp) : MakX P w K mg base (k + 1) x C sp := by
  obtain ⟨f, fd, F, hm, hg, hc⟩ := D.ex
  exact ⟨f, fd, ps, hm, fnq F hc S len hbody, hg, FunD.bindsN F hb⟩
theorem MakX.mak {k : Nat} {C : Addr} {x : Str} {sp sp' : Sp} (c : MakX P w K mg base k x C sp) (h : ∀ vs H Q E, sp' vs H Q E → sp vs H Q C8.E0) : C8.Mak P w K mg base k x C sp' [] := by
  obtain ⟨f, fd, ps, hm, F, hg, b⟩ := c.ex
  refine ⟨f, fd, ps, [], hm, ⟨fun vs H Q E q => F.len vs H Q _ (h _ _ _ _ q), fun A outer s H args us vs Q E hr he hb hv hs => ?_⟩, hg, b, .nil⟩
  refine codeAny_mono (F.run A outer s H args us vs Q C8.E0 hr he hb hv (h _ _ _ _ hs)) fun r s' q => ?_
  cases r with
  | ok f => cases f <;> exact q
  | error e => exact (cx_e0 q).elim
end
section
variable {X : Cx} {k j : Nat} {C : Addr} {x m : Str} {sp : Sp} {p pos apos : Pos} {e o : Expr} {es : List Expr} {ta : TE} {t : TA} {E : XK} {W : WX}
/-- one expression, two readings: whoever answers picks one -/
theorem pe_any2 {t1 t2 : TE} (a : PE X e t1) (b : PE X e t2) : PE X e (fun σ H Q => t1 σ H Q ∨ t2 σ H Q) := ⟨fun pins s σ H Q I h => h.elim (a.run pins s σ H Q I) (b.run pins s σ H Q I)⟩
/-- an object is made; what its __init__ raises leaves the def -/
theorem pe_mkX (c : MakX X.prog X.w X.K X.mg X.base k x C sp) (hr : Room j X.A) (hk : k + 1 ≤ j) (hg : Gl X x) (tk : L2N.Takes X (fun cls d _ H => E cls d H)) (ha : PA X (e :: es) t)
    (hdb : (x == ("__debug__" : Str)) = false := by decide) (he : starEach (e :: es) X.env = (false, eval e X.env) :: starEach es X.env := by rfl) (hpl : (backTo pos (starEach es X.env)).any (·.1) = false := by rfl) :
    PE X (.Call (.Name x p) (e :: es) [] pos) (tMake C sp [] E t) := by
  obtain ⟨f, fd, ps, M, F, hm, b⟩ := c.ex
  exact pe_make M F (hr.mono hk) hg hm b .nil (L2N.passes_call tk fun _ _ _ _ h => h) ha hdb he hpl
theorem pe_mtX {pl : Sem Bool} (c : MetX X.prog X.w X.K X.mg X.base k C m sp) (hr : Room j X.A) (hk : k ≤ j) (tk : L2N.Takes X (fun cls d _ H => E cls d H)) (he : PE X o ta) (ha : PA X (e :: es) t)
    (hst : starEach (e :: es) X.env = (false, eval e X.env) :: starEach es X.env := by rfl) (hpl : (backTo pos (starEach es X.env)).any (·.1) = false := by rfl)
    (ht : eval (.Call (.Attribute o m apos) (e :: es) [] pos) X.env = (do
      let ov ← eval o X.env
      standAt apos.atName
      let fx ← holding [ov] (getMethod ov m pl)
      callWith pos fx.1 fx.2 (backTo pos (starEach (e :: es) X.env)) (backToKw pos (keywordEach [] X.env))) := by rfl) :
    PE X (.Call (.Attribute o m apos) (e :: es) [] pos) (tMeth C m sp [] E ta t) := by
  obtain ⟨f, fd, ps, cl, hm, F, b⟩ := c.ex
  exact pe_meth (pl := pl) he cl hm F (hr.mono hk) b .nil (L2N.passes_call tk fun _ _ _ _ h => h) ha hst hpl ht
end
end CH
end

section
set_option Elab.async false
set_option linter.all false
/-! facts of classes of errors, as Bools over the written part -/
namespace CH
open PySem PySem.Spec PyProof.Rows L2
def excCB (K : PySem.W.Frag) (D : Addr) : Bool :=
  He.eqO (PySem.W.findIn K (.ref D) "__getattribute__") (some (some (.builtin "BaseException.__getattribute__"))) && (He.eqO (PySem.W.findIn K (.ref D) "__getattr__") (some none) && (decide (PySem.W.subIn K (.ref D) (.type "BaseException") = some true) && (PySem.W.hasDictIn K D &&
  (He.eqO (PySem.W.findIn K (.ref D) "__class__") (some (some (.builtin "object.__class__"))) && (He.eqO (PySem.W.specialIn K (.builtin "object.__class__") "__get__") (some (some (.builtin "getset_descriptor.__get__"))) && (decide (PySem.W.takesIn K (.builtin "object.__class__") = some true) && decide (PySem.W.mroIn K D (.type "object") = some true)))))))
theorem excCB_ok {K : PySem.W.Frag} {D : Addr} (h : excCB K D = true) : ExcC K D := by
  obtain ⟨h1, h⟩ := He.ba h
  obtain ⟨h2, h⟩ := He.ba h
  obtain ⟨h3, h⟩ := He.ba h
  obtain ⟨h4, h⟩ := He.ba h
  obtain ⟨h5, h⟩ := He.ba h
  obtain ⟨h6, h⟩ := He.ba h
  obtain ⟨h7, h8⟩ := He.ba h
  exact ⟨He.eqO_ok h1, He.eqO_ok h2, of_decide_eq_true h3, h4, He.eqO_ok h5, He.eqO_ok h6, of_decide_eq_true h7, of_decide_eq_true h8⟩
def kitEB (K : PySem.W.Frag) (x y : Str) (b : Bool) : Bool := decide (PySem.W.kitOne K (.ref (He.ga K x)) (.ref (He.ga K y)) = some b)
theorem kitEB_ok {K : PySem.W.Frag} {x y : Str} {b : Bool} (h : kitEB K x y b = true) : PySem.W.kitOne K (.ref (He.ga K x)) (.ref (He.ga K y)) = some b := of_decide_eq_true h
theorem exn_of {K : PySem.W.Frag} {h : Heap} {mg : Str → Option Value} {x : Str} (X : K.In h) (G : h.Ns mainGlobals mg) (g : (He.Fa.glo x).ok K = true) (e : (He.Fa.exc x).ok K = true) (c : excCB K (He.ga K x) = true) : Exn K mg x (He.ga K x) := by
  obtain ⟨e1, e2, e3, e4⟩ := He.exc_ok e
  exact ⟨He.glo_ok X G g, e1, e2, e3, e4, excCB_ok c⟩
def ownB (K : PySem.W.Frag) (C : Addr) : Bool :=
  He.eqO (PySem.W.findIn K (.ref C) "__class__") (some (some (.builtin "object.__class__"))) && (He.eqO (PySem.W.specialIn K (.builtin "object.__class__") "__get__") (some (some (.builtin "getset_descriptor.__get__"))) && (decide (PySem.W.takesIn K (.builtin "object.__class__") = some true) && decide (PySem.W.mroIn K C (.type "object") = some true)))
theorem own_of {K : PySem.W.Frag} {mg : Str → Option Value} {x : Str} {C : Addr} (g : mg x = some (.ref C)) (cl : Cls K C) (h : ownB K C = true) : Own K mg x C := by
  obtain ⟨h1, h⟩ := He.ba h
  obtain ⟨h2, h⟩ := He.ba h
  obtain ⟨h3, h4⟩ := He.ba h
  exact ⟨g, cl, He.eqO_ok h1, He.eqO_ok h2, of_decide_eq_true h3, of_decide_eq_true h4⟩
theorem codeAt_of {K : PySem.W.Frag} {x qual : Str} {st : Stmt} {dvs : List V} {p : Str × Option Str} {fd : FuncData} (F : FnQ K x qual st dvs (He.fAd K p) fd) : CodeAt K (He.fAd K p) (He.codeOf K p) := fun oc od osl fd' lk' => by
  obtain ⟨oc1, od1, dV, kV, doc, pm, an, cdv, ct, osl1, rfl, lk, hcd, _, _⟩ := F.ex
  obtain ⟨c', ec⟩ := He.codeIn_ref hcd
  have e2 : He.codeOf K p = c' := He.codeOf_eq lk ec
  rw [lk] at lk'
  cases lk'
  rw [e2]
  exact ec
theorem defQ_of {K : PySem.W.Frag} {mg : Str → Option Value} {x : Str} {st : Stmt} {dvs : List V} (F : ∃ fd, FnQ K x x st dvs (He.fAd K (x, none)) fd) (hm : mg x = some (.ref (He.ga K x))) : DefQ K mg x st dvs (He.codeOf K (x, none)) := by
  obtain ⟨fd, F⟩ := F
  exact ⟨_, fd, F, hm, codeAt_of F⟩
theorem metT_of {K : PySem.W.Frag} {x m qual : Str} {st : Stmt} (F : ∃ fd, FnQ K m qual st [] (He.fAd K (x, some m)) fd) (hm : Meth K (He.ga K x) m (He.ma K (He.ga K x) m)) (cl : Cls K (He.ga K x)) : MetT K (He.ga K x) m qual st (He.codeOf K (x, some m)) := by
  obtain ⟨fd, F⟩ := F
  exact ⟨_, fd, F, hm, cl, codeAt_of F⟩
theorem makT_of {K : PySem.W.Frag} {mg : Str → Option Value} {x qual : Str} {st : Stmt} (F : ∃ fd, FnQ K "__init__" qual st [] (He.fAd K (x, some "__init__")) fd) (hm : Mk K (He.ga K x) (He.ma K (He.ga K x) "__init__")) (g : mg x = some (.ref (He.ga K x))) : MakT K mg x (He.ga K x) qual st (He.codeOf K (x, some "__init__")) := by
  obtain ⟨fd, F⟩ := F
  exact ⟨_, fd, F, hm, g, codeAt_of F⟩
end CH
end

section
set_option Elab.async false
set_option linter.all false
namespace CH
open PySem L2
/-! ### words -/
structure Wd where
  c : Int
  h : Int
  p : Int
  o : Int
  a : Str
  deriving DecidableEq
def Wd.V (w : Wd) : List V := [.int w.c, .int w.h, .int w.p, .int w.o, .str w.a]
def ansL : List Str := ["yes", "maybe", "no"]
def Wd.ok (w : Wd) : Prop := 1 ≤ w.c ∧ w.c ≤ 99 ∧ 0 ≤ w.h ∧ w.h ≤ 3 ∧ 0 ≤ w.p ∧ w.p ≤ 7 ∧ 0 ≤ w.o ∧ w.o ≤ 11 ∧ w.a ∈ ansL
/-- the words ws stand at ts -/
def WAt (K : PySem.W.Frag) (H : Hp) (ts : List Addr) (ws : List Wd) : Prop := Paired (fun t w => SqT K H t w.V) ts ws
theorem WAt.k {K : PySem.W.Frag} {H H' : Hp} {ts : List Addr} {ws : List Wd} (k : Kx H H') (h : WAt K H ts ws) : WAt K H' ts ws := by
  induction h with
  | nil => exact .nil
  | cons r t ih => exact .cons (k.t r) ih
/-- a list or a dict of ours is changed: the tuples stay -/
theorem st_up {K : PySem.W.Frag} {H : Hp} {r t : Addr} {o u : HO} {xs : List V} (hr : H r = some o) (n1 : ∀ ys, o ≠ .tup ys) (n2 : ∀ b v, o ≠ .frz b v) (h : SqT K H t xs) : SqT K (upd H r u) t xs := by
  rcases h with (h | ⟨b, h⟩) | h
  · refine .inl (.inl ?_)
    rw [upd_ne fun e => n1 xs (Option.some.inj (hr.symm.trans (by rw [← e]; exact h)))]
    exact h
  · refine .inl (.inr ⟨b, ?_⟩)
    rw [upd_ne fun e => n2 b _ (Option.some.inj (hr.symm.trans (by rw [← e]; exact h)))]
    exact h
  · exact .inr h
theorem WAt.up {K : PySem.W.Frag} {H : Hp} {r : Addr} {o u : HO} {ts : List Addr} {ws : List Wd} (hr : H r = some o) (n1 : ∀ ys, o ≠ .tup ys) (n2 : ∀ b v, o ≠ .frz b v) (h : WAt K H ts ws) : WAt K (upd H r u) ts ws := by
  induction h with
  | nil => exact .nil
  | cons q t ih => exact .cons (st_up hr n1 n2 q) ih
theorem paired_len {α β : Type} {F : α → β → Prop} : ∀ {xs : List α} {ys : List β}, Paired F xs ys → xs.length = ys.length
  | _, _, .nil => rfl
  | _, _, .cons _ t => congrArg Nat.succ (paired_len t)
theorem paired_at {α β : Type} {F : α → β → Prop} : ∀ {xs : List α} {ys : List β} {i : Nat} {x : α}, Paired F xs ys → xs[i]? = some x → ∃ y, ys[i]? = some y ∧ F x y
  | _, _, _, _, .nil, h => by simp at h
  | _, _, 0, _, .cons r _, h => by
    cases h
    exact ⟨_, rfl, r⟩
  | _, _, i + 1, x, .cons _ t, h => paired_at (i := i) (x := x) t (by simpa using h)
theorem paired_snoc {α β : Type} {F : α → β → Prop} {x : α} {y : β} : ∀ {xs : List α} {ys : List β}, Paired F xs ys → F x y → Paired F (xs ++ [x]) (ys ++ [y])
  | _, _, .nil, h => .cons h .nil
  | _, _, .cons r t, h => .cons r (paired_snoc t h)
/-- a list of words at l -/
def WsAt (K : PySem.W.Frag) (H : Hp) (l : Addr) (ws : List Wd) : Prop := ∃ ts, SqL K H l (ts.map V.ref) ∧ WAt K H ts ws
theorem WsAt.k {K : PySem.W.Frag} {H H' : Hp} {l : Addr} {ws : List Wd} (k : Kx H H') (h : WsAt K H l ws) : WsAt K H' l ws := by
  obtain ⟨ts, h1, h2⟩ := h
  exact ⟨ts, k.l h1, h2.k k⟩
end CH
end

section
set_option Elab.async false
set_option linter.all false
namespace CH
open PySem L2
def top (i : Nat) : Stmt := PySem.Challenge.pw_commonhour_k08_whole_books.main.body.getD i (.Pass ⟨0, 0, 0, 0⟩)
/-- what the head says of the module's names: built-ins are free, the constants -/
structure Tx (K : PySem.W.Frag) (mg : Str → Option Value) (aA : Addr) : Prop where
  z_ValueError : mg "ValueError" = none
  z_abs : mg "abs" = none
  z_bool : mg "bool" = none
  z_enumerate : mg "enumerate" = none
  z_int : mg "int" = none
  z_isinstance : mg "isinstance" = none
  z_len : mg "len" = none
  z_list : mg "list" = none
  z_max : mg "max" = none
  z_range : mg "range" = none
  z_sorted : mg "sorted" = none
  z_str : mg "str" = none
  z_sum : mg "sum" = none
  z_tuple : mg "tuple" = none
  c_MOST_WORDS : ∃ u, mg "MOST_WORDS" = some u ∧ RelV (.int 80) u
  c_COUNTS : ∃ u, mg "COUNTS" = some u ∧ RelV (.int 99) u
  c_HANDS : ∃ u, mg "HANDS" = some u ∧ RelV (.int 4) u
  c_PEOPLE : ∃ u, mg "PEOPLE" = some u ∧ RelV (.int 8) u
  c_HOURS : ∃ u, mg "HOURS" = some u ∧ RelV (.int 12) u
  c_ANSWERS : ∃ u, mg "ANSWERS" = some u ∧ RelV (.ref aA) u
  h_ANSWERS : ∀ H, SqT K H aA ((["yes", "maybe", "no"] : List Str).map V.str)
theorem Tx.hA {K : PySem.W.Frag} {mg : Str → Option Value} {aA : Addr} (T : Tx K mg aA) : ∀ H, SqT K H aA (ansL.map V.str) := T.h_ANSWERS
end CH
end

section
set_option Elab.async false
set_option linter.all false
set_option maxRecDepth 100000
set_option maxHeartbeats 0
namespace CH
open PySem PySem.Spec PyProof.Rows L2
open GxR (TabB TabG Tabbed)
def dd (x : Str) (st : Stmt) : He.DefD := ⟨(x, none), x, x, defArgs st, defBody st, defScope st, [], []⟩
def de (a : Str × Option Str) (x q : Str) (st : Stmt) (l : List He.Dv) : He.DefD := ⟨a, x, q, defArgs st, defBody st, defScope st, l, []⟩
def fn : List He.DefD := [dd "is_whole" (top 16), dd "is_number" (top 17), dd "is_hand" (top 18), dd "is_person" (top 19), dd "is_hour" (top 20), dd "is_answer" (top 21), dd "is_word" (top 22), dd "copied_words" (top 23), dd "each_once" (top 24), dd "checked_words" (top 25), dd "check_hand" (top 26), dd "check_person" (top 27), dd "check_hour" (top 28), dd "check_answer" (top 29), dd "joined" (top 31), dd "answers_that_count" (top 32), dd "answer_of" (top 33), de ("Book", some "__init__") "__init__" "Book.__init__" (inClass (top 35) 0) [], de ("Book", some "answer") "answer" "Book.answer" (inClass (top 35) 1) [], de ("Book", some "hear") "hear" "Book.hear" (inClass (top 35) 2) [], de ("Book", some "all_words") "all_words" "Book.all_words" (inClass (top 35) 3) [], de ("Book", some "says") "says" "Book.says" (inClass (top 35) 4) [], dd "_law_number" (top 37), dd "_law_answers" (top 39), dd "_law_due" (top 40), dd "_law_ask" (top 41), dd "_law_deed" (top 42), dd "_law_same" (top 43), dd "_law_kind" (top 44), dd "_law_two_right" (top 45), dd "_law_hear_right" (top 46), dd "law" (top 47)]
def fa : List He.Fa := [.glo "is_whole", .glo "is_number", .glo "is_hand", .glo "is_person", .glo "is_hour", .glo "is_answer", .glo "is_word", .glo "copied_words", .glo "each_once", .glo "checked_words", .glo "check_hand", .glo "check_person", .glo "check_hour", .glo "check_answer", .glo "joined", .glo "answers_that_count", .glo "answer_of", .glo "_law_number", .glo "_law_answers", .glo "_law_due", .glo "_law_ask", .glo "_law_deed", .glo "_law_same", .glo "_law_kind", .glo "_law_two_right", .glo "_law_hear_right", .glo "law", .free "ValueError", .free "abs", .free "bool", .free "enumerate", .free "int", .free "isinstance", .free "len", .free "list", .free "max", .free "range", .free "sorted", .free "str", .free "sum", .free "tuple", .int "MOST_WORDS" 80, .int "COUNTS" 99, .int "HANDS" 4, .int "PEOPLE" 8, .int "HOURS" 12, .glo "ANSWERS", .glo "Book", .cls "Book", .noat "Book" "_hand", .noat "Book" "_known", .mkr "Book", .meth "Book" "answer", .meth "Book" "hear", .meth "Book" "all_words", .meth "Book" "says", .glo "HourError", .exc "HourError", .glo "BadWords", .exc "BadWords", .glo "Unlike", .exc "Unlike", .glo "TooMany", .exc "TooMany", .exm "Unlike" "HourError" true, .exm "TooMany" "HourError" true]
def tf : List He.Defn := []
def ex (K : PySem.W.Frag) : Bool := He.tupB K "ANSWERS" [.str "yes", .str "maybe", .str "no"] && (ownB K (He.ga K "Book") && (excCB K (He.ga K "HourError") && (excCB K (He.ga K "BadWords") && (excCB K (He.ga K "Unlike") && (excCB K (He.ga K "TooMany") && (kitEB K "Unlike" "Unlike" true && (kitEB K "TooMany" "Unlike" false && (kitEB K "TooMany" "TooMany" true && (true)))))))))
abbrev R : PySem.W.OpenRow := PySem.W.OpenLaw.row PySem.Challenge.rw_commonhour_k08_whole_books
abbrev hk : PySem.W.Hook := He.hookX 6 fa fn [] tf ex
def ob (s : PySem.W.SharedT) : He.AlX := He.obsX 6 fa fn [] tf ex (HandSHeadRun.getT s)
theorem ob_eq (s : PySem.W.SharedT) : ob s = hk.obs s.abs := He.obsX_eq (HandSHeadRun.getT_eq s)
def loose : List Str := ([("HourError" : Str), ("BadWords" : Str), ("BadHand" : Str), ("BadPerson" : Str), ("BadHour" : Str), ("BadWord" : Str), ("Unlike" : Str), ("TooMany" : Str), ("MOST_WORDS" : Str), ("COUNTS" : Str), ("HANDS" : Str), ("PEOPLE" : Str), ("HOURS" : Str), ("ANSWERS" : Str), ("is_whole" : Str), ("is_number" : Str), ("is_hand" : Str), ("is_person" : Str), ("is_hour" : Str), ("is_answer" : Str), ("is_word" : Str), ("copied_words" : Str), ("each_once" : Str), ("checked_words" : Str), ("check_hand" : Str), ("check_person" : Str), ("check_hour" : Str), ("check_answer" : Str), ("joined" : Str), ("answers_that_count" : Str)] : List Str) ++ ([("answer_of" : Str), ("Book" : Str), ("_law_number" : Str), ("_law_words" : Str), ("_law_answers" : Str), ("_law_due" : Str), ("_law_ask" : Str), ("_law_deed" : Str), ("_law_same" : Str), ("_law_kind" : Str), ("_law_two_right" : Str), ("_law_hear_right" : Str)] : List Str)
theorem run (w : World) : HandSHeadRun.RunEq R (PySem.W.view R.prog [47]) hk ob 12000 loose w := by
  intro os
  kernel_rfl
end CH
end

section
set_option Elab.async false
set_option linter.all false
set_option maxRecDepth 100000
set_option maxHeartbeats 4000000
namespace CH
open PySem PySem.Spec PyProof.Rows L2
/-- [φ for i, x in enumerate(xs)] -/
theorem lc_enumF {K : PySem.W.Frag} {a : Addr} {xs : List V} {s1 s2 : Nat} {te : TE} {vs : List Nat} {σ : L2.St} {H0 : Hp} {D : Addr} {Qd : Hp → Prop} (φ : Nat → V) (h4 : xs.length ≤ 4000) (ha : SqL K H0 a xs) (nD : H0 D = none)
    (hw : ∀ x y, wipe (((wipe σ vs).set s1 (some x)).set s2 (some y)) vs = wipe σ vs)
    (hs : ∀ (i : Nat) (x : V) (T : Addr) (H3 : Hp), xs[i]? = some x → Kx H0 H3 → H3 T = none → ∀ Q : VK, (∀ H4, Kx (upd H3 T (.tup [.int (i : Nat), x])) H4 → Q (φ i) H4) → te (((wipe σ vs).set s1 (some (.int (i : Nat)))).set s2 (some x)) (upd H3 T (.tup [.int (i : Nat), x])) Q)
    (hd : ∀ H3, Kx H0 H3 → H3 D = some (.lst ((List.range xs.length).map φ)) → Qd H3) :
    ∃ W : Nat → Nat → Hp → Prop, (∃ m, W 0 m (upd H0 D (.lst []))) ∧ ∀ i1 m H, W i1 m H →
      ((Ite K a).stop i1 H ∧ Qd H) ∨ ((Ite K a).go i1 H ∧ ∃ Nx : Hp → Prop, (∀ H', Nx H' → ∃ m', m' < m ∧ W (i1 + 1) m' H') ∧ ∀ x H', (Ite K a).yld i1 H x H' → gTup K 2 (gCons (gName s1) (gCons (gName s2) gNil)) x (wipe σ vs) H' fun σ2 H2 => wipe σ2 vs = wipe σ vs ∧ tYes σ2 H2 fun b H3 =>
        if b = true then te σ2 H3 fun y H4 => ∃ acc, H4 D = some (.lst acc) ∧ acc.length < sizeLine ∧ Nx (upd H4 D (.lst (acc ++ [y]))) else Nx H3) := by
  refine ⟨fun i m H => m = xs.length - i ∧ i ≤ xs.length ∧ Kx H0 H ∧ H D = some (.lst ((List.range i).map φ)), ⟨xs.length, rfl, Nat.zero_le _, Kx.new nD, upd_same⟩, ?_⟩
  rintro i m H ⟨rfl, hi, k3, hD⟩
  have qx := k3.l ha
  by_cases hlt : i < xs.length
  · have hx : xs[i]? = some xs[i] := List.getElem?_eq_getElem hlt
    refine .inr ⟨⟨xs, _, qx, hx⟩, fun H' => Kx H0 H' ∧ H' D = some (.lst ((List.range (i + 1)).map φ)), fun H' p' => ⟨xs.length - (i + 1), by omega, rfl, hlt, p'.1, p'.2⟩, fun v H' y => ?_⟩
    obtain ⟨T, x', rfl, hT, rfl, f1⟩ := y
    have ht : (upd H T (.tup [.int (i : Nat), x'])) T = some (.tup [.int (i : Nat), x']) := upd_same
    have kT : Kx H (upd H T (.tup [.int (i : Nat), x'])) := Kx.new hT
    refine ⟨T, _, rfl, st_of ht, rfl, _, _, rfl, _, _, rfl, rfl, hw _ x', yesT ?_⟩
    refine hs i x' T H (f1 xs qx) k3 hT _ fun H4 k4 => ⟨_, (kT.trans k4).lst hD, ?_, ((k3.trans kT).trans k4).mut nD, ?_⟩
    · rw [List.length_map, List.length_range]
      exact lt80 (by omega)
    · rw [upd_same, List.range_succ, List.map_append] <;> rfl
  · have e : i = xs.length := by omega
    subst e
    exact .inl ⟨⟨xs, qx, Nat.le_refl _⟩, hd H k3 hD⟩
/-- an object just made, its field stored -/
theorem Kx.made {H0 H1 : Hp} {x dx C : Addr} {fs fs' : List (Str × V)} (nx : H0 x = none) (ndx : H0 dx = none) (k : Kx (upd (upd H0 dx (.own x)) x (.ins C dx fs)) H1) : Kx H0 (upd H1 x (.ins C dx fs')) := by
  refine Kx.mut (Kx.trans ?_ k) nx
  exact (Kx.new ndx).mut nx
section
variable {P : Program} {w : World} {K : PySem.W.Frag} {mg : Str → Option Value} {base : Heap}
theorem fnok_of {x : Str} {st : Stmt} {f c : Addr} {fd : FuncData} {N ps : List Str} {k : Nat} {sp : Sp} (F : FnT K x st f fd) (hc : ∀ oc od osl fd', K.lookup f = some ⟨oc, od, .func fd', osl⟩ → fd'.code = .ref c) (S : FnScope N ps (defScope st))
    (len : ∀ vs H Q E, sp vs H Q E → vs.length = ps.length)
    (hbody : ∀ (A : Around) (outer : List Env) (s : Shared) (H : Hp) (vs : List V) (Q : VK) (E : XK), Room k (A.deeper (envOfC x (defScope st) s.heap.objs.size f (.ref c))) → sp vs H Q E →
      ∃ t, PSs (cxOf CX0 P w K mg base N x (defScope st) f (.ref c) A outer s H E).nox (defBody st) t ∧ t { nx := fun _ H' => Q .non H', rt := Q } (start N vs) H) : FnOk P w K mg base CX0 (k + 1) f fd ps sp := by
  obtain ⟨oc, od, dV, kV, doc, pm, an, cdv, ct, osl, rfl, lk, hcd, _, _⟩ := F.ex
  obtain rfl : cdv = .ref c := hc _ _ _ _ lk
  refine fn_of lk hcd S len fun A outer s H vs Q E hr hsp => ?_
  obtain ⟨t, h, q⟩ := hbody A outer s H vs Q E hr hsp
  exact ⟨t, h.nox, q⟩
end
/-- a weaker promise -/
theorem Cal.weak {P : Program} {w : World} {K : PySem.W.Frag} {mg : Str → Option Value} {base : Heap} {k : Nat} {x : Str} {sp sp' : Sp} {dvs : List V} (c : C8.Cal P w K mg base k x sp dvs) (h : ∀ vs H Q E, sp' vs H Q E → sp vs H Q E) : C8.Cal P w K mg base k x sp' dvs := by
  obtain ⟨f, fd, ps, ds, F, hm, kp, b, d⟩ := c.ex
  exact ⟨f, fd, ps, ds, ⟨fun vs H Q E q => F.len vs H Q E (h _ _ _ _ q), fun A outer s H args us vs Q E hr he hb hv hs => F.run A outer s H args us vs Q E hr he hb hv (h _ _ _ _ hs)⟩, hm, kp, b, d⟩
def rListOf (K : PySem.W.Frag) : List V → Hp → VK → Prop := fun xs H Q => ∃ p ys, xs = [V.ref p] ∧ (SqL K H p ys ∨ SqT K H p ys) ∧ ∀ l : Addr, H l = none → Q (V.ref l) (upd H l (.lst ys))
end CH
end

section
set_option Elab.async false
set_option linter.all false
set_option maxRecDepth 100000
namespace CH
open PySem PySem.Spec PyProof.Rows L2
/-! ### words once, in order -/
def plt (a b : Wd) : Prop := a.c < b.c ∨ (a.c = b.c ∧ a.h < b.h)
structure Once (ws us : List Wd) : Prop where
  mem : ∀ x, x ∈ us ↔ x ∈ ws
  ord : us.Pairwise plt
def Alike (ws : List Wd) : Prop := ∀ a ∈ ws, ∀ b ∈ ws, a.c = b.c → a.h = b.h → a = b
/-- tracked tuples -/
def TAt (H : Hp) (ts : List Addr) (ws : List Wd) : Prop := Paired (fun t w => H t = some (.tup w.V)) ts ws
theorem TAt.k {H H' : Hp} {ts : List Addr} {ws : List Wd} (k : Kx H H') (h : TAt H ts ws) : TAt H' ts ws := by
  induction h with
  | nil => exact .nil
  | cons r t ih => exact .cons (k.tup r) ih
theorem TAt.w {K : PySem.W.Frag} {H : Hp} {ts : List Addr} {ws : List Wd} (h : TAt H ts ws) : WAt K H ts ws := by
  induction h with
  | nil => exact .nil
  | cons r t ih => exact .cons (st_of r) ih
theorem TAt.up {H : Hp} {r : Addr} {o u : HO} {ts : List Addr} {ws : List Wd} (hr : H r = some o) (n1 : ∀ ys, o ≠ .tup ys) (h : TAt H ts ws) : TAt (upd H r u) ts ws := by
  induction h with
  | nil => exact .nil
  | cons q t ih =>
    refine .cons ?_ ih
    rw [upd_ne fun e => n1 _ (Option.some.inj (hr.symm.trans (by rw [← e]; exact q)))]
    exact q
def Wd.ints (w : Wd) : List Int := [w.c, w.h, w.p, w.o]
def wkOf (H : Hp) (t : Addr) : List Int × Str := match H t with
  | some (.tup [.int a, .int b, .int c, .int d, .str z]) => ([a, b, c, d], z)
  | _ => ([], "")
theorem wkOf_eq {H : Hp} {t : Addr} {w : Wd} (h : H t = some (.tup w.V)) : wkOf H t = (w.ints, w.a) := by
  unfold wkOf
  rw [h] <;> rfl
theorem wdV_ints (w : Wd) : wdV (w.ints, w.a) = w.V := rfl
/-- the words of the pairs stand at their places -/
def PAt (H : Hp) (qs : List (Addr × Wd)) : Prop := ∀ q ∈ qs, H q.1 = some (.tup q.2.V)
theorem PAt.k {H H' : Hp} {qs : List (Addr × Wd)} (k : Kx H H') (h : PAt H qs) : PAt H' qs := fun q hq => k.tup (h q hq)
theorem PAt.up {H : Hp} {r : Addr} {o u : HO} {qs : List (Addr × Wd)} (hr : H r = some o) (n1 : ∀ ys, o ≠ .tup ys) (h : PAt H qs) : PAt (upd H r u) qs := fun q hq => by
  rw [upd_ne fun e => n1 _ (Option.some.inj (hr.symm.trans (by rw [← e]; exact h q hq)))]
  exact h q hq
def kW (w : Wd) : List Key := [Sum.inl w.c, Sum.inl w.h]
theorem kW_inj {a b : Wd} (h : kW a = kW b) : a.c = b.c ∧ a.h = b.h := by
  unfold kW at h
  injection h with h1 h2
  injection h2 with h2 _
  exact ⟨Sum.inl.inj h1, Sum.inl.inj h2⟩
def entW (q : Addr × Wd) : List Key × V := (kW q.2, .ref q.1)
theorem valV_entW {w : Wd} : ∀ {qs : List (Addr × Wd)}, (∃ q ∈ qs, kW q.2 = kW w ∧ valV (qs.map entW) (kW w) = some (.ref q.1)) ∨ ((∀ q ∈ qs, kW q.2 ≠ kW w) ∧ valV (qs.map entW) (kW w) = none)
  | [] => .inr ⟨fun q h => absurd h (by simp), rfl⟩
  | q :: qs => by
    by_cases e : kW q.2 = kW w
    · refine .inl ⟨q, List.mem_cons_self, e, ?_⟩
      rw [List.map_cons, valV_pos (p := entW q) e] <;> rfl
    · rcases valV_entW (w := w) (qs := qs) with ⟨p, hp, h1, h2⟩ | ⟨h1, h2⟩
      · refine .inl ⟨p, List.mem_cons_of_mem _ hp, h1, ?_⟩
        rw [List.map_cons, valV_neg (p := entW q) e, h2]
      · refine .inr ⟨fun p hp => ?_, ?_⟩
        · rcases List.mem_cons.mp hp with rfl | hp
          · exact e
          · exact h1 p hp
        · rw [List.map_cons, valV_neg (p := entW q) e, h2]
/-- what was kept so far of ws -/
structure Kept (qs : List (Addr × Wd)) (ws : List Wd) : Prop where
  mem : ∀ x, x ∈ qs.map (·.2) ↔ x ∈ ws
  nd : qs.Pairwise fun a b => kW a.2 ≠ kW b.2
theorem Kept.nil : Kept [] [] := ⟨fun x => by simp, List.Pairwise.nil⟩
theorem Kept.same {qs : List (Addr × Wd)} {ws : List Wd} {x : Wd} (k : Kept qs ws) (h : x ∈ qs.map (·.2)) : Kept qs (ws ++ [x]) := by
  refine ⟨fun y => ?_, k.nd⟩
  rw [List.mem_append, List.mem_singleton]
  constructor
  · intro hy
    exact .inl ((k.mem y).mp hy)
  · rintro (hy | rfl)
    · exact (k.mem y).mpr hy
    · exact h
theorem Kept.more {qs : List (Addr × Wd)} {ws : List Wd} {q : Addr × Wd} (k : Kept qs ws) (h : ∀ p ∈ qs, kW p.2 ≠ kW q.2) : Kept (qs ++ [q]) (ws ++ [q.2]) := by
  refine ⟨fun y => ?_, List.pairwise_append.mpr ⟨k.nd, List.pairwise_singleton _ _, fun a ha b hb => ?_⟩⟩
  · rw [List.map_append, List.mem_append, List.mem_append, k.mem y]
    rfl
  · rw [List.mem_singleton.mp hb]
    exact h a ha
/-- sorted: once -/
theorem once_of {H : Hp} {qs : List (Addr × Wd)} {ws : List Wd} {ts' : List Addr} (k : Kept qs ws) (hp : PAt H qs) (p : ts'.Perm (qs.map (·.1))) (s : ts'.Pairwise fun x y => HT.lexLt (keyOf (wkOf H) y) (keyOf (wkOf H) x) = false) :
    ∃ us, TAt H ts' us ∧ Once ws us := by
  -- the pairs in the order of ts'
  obtain ⟨rs, pr, er⟩ := perm_lift (fun q : Addr × Wd => q.1) p qs rfl
  subst er
  have hr : ∀ q ∈ rs, H q.1 = some (.tup q.2.V) := fun q hq => hp q (pr.mem_iff.mp hq)
  have nd : rs.Pairwise fun a b => kW a.2 ≠ kW b.2 := (pr.pairwise_iff (fun h z => h z.symm)).mpr k.nd
  refine ⟨rs.map (·.2), ?_, fun x => ?_, ?_⟩
  · have all : ∀ l : List (Addr × Wd), (∀ q ∈ l, H q.1 = some (.tup q.2.V)) → TAt H (l.map (·.1)) (l.map (·.2)) := by
      intro l
      induction l with
      | nil => intro _; exact .nil
      | cons q l ih => intro h; exact .cons (h q List.mem_cons_self) (ih fun p hp => h p (List.mem_cons_of_mem _ hp))
    exact all rs hr
  · rw [← k.mem x]
    exact (pr.map (·.2)).mem_iff
  · rw [List.pairwise_map] at s ⊢
    refine List.Pairwise.imp_of_mem (fun {a b} ha hb h => ?_) (s.and nd)
    obtain ⟨h1, h2⟩ := h
    have ea := wkOf_eq (hr a ha)
    have eb := wkOf_eq (hr b hb)
    have h1' : HT.lexLt (wkey b.2.ints b.2.a) (wkey a.2.ints a.2.a) = false := by
      have z : HT.lexLt (keyOf (wkOf H) b.1) (keyOf (wkOf H) a.1) = false := h1
      unfold keyOf at z
      rw [ea, eb] at z
      exact z
    have h1'' : HT.lexLt (b.2.c :: b.2.h :: b.2.p :: b.2.o :: strInts b.2.a) (a.2.c :: a.2.h :: a.2.p :: a.2.o :: strInts a.2.a) = false := h1'
    rw [HT.lexLt_cons] at h1''
    by_cases e : b.2.c = a.2.c
    · rw [if_pos e, HT.lexLt_cons] at h1''
      by_cases e2 : b.2.h = a.2.h
      · exact absurd (by unfold kW; rw [e, e2] : kW a.2 = kW b.2) h2
      · rw [if_neg e2] at h1''
        have := of_decide_eq_false h1''
        exact .inr ⟨e.symm, by omega⟩
    · rw [if_neg e] at h1''
      have := of_decide_eq_false h1''
      exact .inl (by omega)
/-! ### words, lists of ints as data -/
def wdD (w : Wd) : PyData := .tuple [.int w.c, .int w.h, .int w.p, .int w.o, .str w.a]
theorem wdD_dp {K : PySem.W.Frag} {H : Hp} {t : Addr} {w : Wd} (h : SqT K H t w.V) : Dp K H (.ref t) (wdD w) := .tup h (.cons (.int _) (.cons (.int _) (.cons (.int _) (.cons (.int _) (.cons (.str _) .nil)))))
theorem beq_str (x y : Str) : (x == y) = decide (x = y) := by
  by_cases h : x = y
  · subst h; simp
  · rw [decide_eq_false h]
    exact beq_eq_false_iff_ne.mpr h
theorem wdD_eqv (a b : Wd) : PyData.eqv (wdD a) (wdD b) = decide (a = b) := by
  obtain ⟨a1, a2, a3, a4, a5⟩ := a
  obtain ⟨b1, b2, b3, b4, b5⟩ := b
  have e : PyData.eqv (wdD ⟨a1, a2, a3, a4, a5⟩) (wdD ⟨b1, b2, b3, b4, b5⟩) = ((a1 == b1) && ((a2 == b2) && ((a3 == b3) && ((a4 == b4) && ((a5 == b5) && true))))) := rfl
  rw [e, Bool.eq_iff_iff, decide_eq_true_eq]
  simp
theorem ans_ok {a : Str} (h : a ∈ ansL) : PyData.strOk a = true := by
  unfold ansL at h
  rcases List.mem_cons.mp h with rfl | h
  · decide +kernel
  · rcases List.mem_cons.mp h with rfl | h
    · decide +kernel
    · rw [List.mem_singleton.mp h]
      decide +kernel
theorem wdD_lay {w : Wd} (h : w.a ∈ ansL) : (wdD w).canLay0 = true := by
  simp only [wdD, PyData.canLay0, PyData.canLayAll0, ans_ok h, Bool.and_self]
theorem wdD_depth (w : Wd) : (wdD w).depth = 1 := by
  simp [wdD, PyData.depth, PyData.depthAll]
theorem wdD_sh {w : Wd} (h : w.a ∈ ansL) : SeqAt.shaped (wdD w) = true := by
  unfold SeqAt.shaped
  rw [wdD_lay h, wdD_depth]
  rfl
/-- a list of words -/
def wsD (ws : List Wd) : PyData := .list (ws.map wdD)
theorem eqvAll_map {α : Type} [DecidableEq α] {f : α → PyData} (hf : ∀ a b, PyData.eqv (f a) (f b) = decide (a = b)) : ∀ xs ys : List α, PyData.eqvAll (xs.map f) (ys.map f) = decide (xs = ys)
  | [], [] => rfl
  | [], _ :: _ => rfl
  | _ :: _, [] => rfl
  | x :: xs, y :: ys => by
    have e : PyData.eqvAll ((x :: xs).map f) ((y :: ys).map f) = (PyData.eqv (f x) (f y) && PyData.eqvAll (xs.map f) (ys.map f)) := rfl
    rw [e, hf, eqvAll_map hf xs ys, Bool.eq_iff_iff]
    simp
theorem wsD_eqv (xs ys : List Wd) : PyData.eqv (wsD xs) (wsD ys) = decide (xs = ys) := eqvAll_map wdD_eqv xs ys
theorem wsD_dp {K : PySem.W.Frag} {H : Hp} {l : Addr} {ws : List Wd} (h : WsAt K H l ws) : Dp K H (.ref l) (wsD ws) := by
  obtain ⟨ts, h1, h2⟩ := h
  refine .lst h1 ?_
  clear h1
  induction h2 with
  | nil => exact .nil
  | cons r t ih => exact .cons (wdD_dp r) ih
theorem wsD_sh {ws : List Wd} (h : ∀ x ∈ ws, x.ok) : SeqAt.shaped (wsD ws) = true := by
  have lay : ∀ l : List Wd, (∀ x ∈ l, x.ok) → PyData.canLayAll0 (l.map wdD) = true := by
    intro l
    induction l with
    | nil => intro _; rfl
    | cons x l ih =>
      intro h
      obtain ⟨_, _, _, _, _, _, _, _, ha⟩ := h x List.mem_cons_self
      simp only [List.map_cons, PyData.canLayAll0, wdD_lay ha, ih fun y hy => h y (List.mem_cons_of_mem _ hy), Bool.and_self]
  have dep : ∀ l : List Wd, PyData.depthAll (l.map wdD) ≤ 1 := by
    intro l
    induction l with
    | nil => simp [PyData.depthAll]
    | cons x l ih =>
      simp only [List.map_cons, PyData.depthAll, wdD_depth]
      omega
  unfold SeqAt.shaped wsD
  have e1 : (PyData.list (ws.map wdD)).canLay0 = true := by
    simp only [PyData.canLay0]
    exact lay ws h
  have e2 : (PyData.list (ws.map wdD)).depth ≤ 64 := by
    simp only [PyData.depth]
    have := dep ws
    omega
  rw [e1, decide_eq_true e2]
  rfl
/-- a list of ints -/
def isD (ns : List Int) : PyData := .list (ns.map PyData.int)
theorem int_eqv (a b : Int) : PyData.eqv (.int a) (.int b) = decide (a = b) := by
  have e : PyData.eqv (.int a) (.int b) = (a == b) := rfl
  rw [e, Bool.eq_iff_iff]
  simp
theorem isD_eqv (xs ys : List Int) : PyData.eqv (isD xs) (isD ys) = decide (xs = ys) := eqvAll_map int_eqv xs ys
theorem ints_dp {K : PySem.W.Frag} {H : Hp} : ∀ ns : List Int, DpAll K H (ns.map V.int) (ns.map PyData.int)
  | [] => .nil
  | n :: ns => .cons (.int n) (ints_dp ns)
theorem isD_dp {K : PySem.W.Frag} {H : Hp} {l : Addr} {ns : List Int} (h : SqL K H l (ns.map V.int)) : Dp K H (.ref l) (isD ns) := .lst h (ints_dp ns)
theorem ints_lay : ∀ ns : List Int, PyData.canLayAll0 (ns.map PyData.int) = true
  | [] => rfl
  | n :: ns => by simp only [List.map_cons, PyData.canLayAll0, PyData.canLay0, ints_lay ns, Bool.and_self]
theorem ints_depth : ∀ ns : List Int, PyData.depthAll (ns.map PyData.int) = 0
  | [] => rfl
  | n :: ns => by simp only [List.map_cons, PyData.depthAll, PyData.depth, ints_depth ns, Nat.max_self]
theorem isD_sh (ns : List Int) : SeqAt.shaped (isD ns) = true := by
  unfold SeqAt.shaped isD
  simp only [PyData.canLay0, ints_lay, PyData.depth, ints_depth]
  rfl
end CH
end

section
set_option Elab.async false
set_option linter.all false
set_option maxRecDepth 100000
namespace CH
open PySem PySem.Spec PyProof.Rows L2
/-! ### meetings -/
/-- people rise, from b + 1 on, to 7 -/
def Rise : Int → List Int → Prop
  | _, [] => True
  | b, n :: ns => b + 1 ≤ n ∧ n ≤ 7 ∧ Rise n ns
structure Mt where
  ps : List Int
  e : Int
  nds : List Int
structure Mt.ok (m : Mt) : Prop where
  p : Rise (-1) m.ps
  n : Rise (-1) m.nds
  e1 : 1 ≤ m.e
  e2 : m.e ≤ m.ps.length
  sub : ∀ x ∈ m.nds, x ∈ m.ps
/-- a meeting at a -/
structure MAt (K : PySem.W.Frag) (H : Hp) (a : Addr) (m : Mt) : Prop where
  ex : ∃ p n, SqT K H a [.ref p, .int m.e, .ref n] ∧ SqT K H p (m.ps.map V.int) ∧ SqT K H n (m.nds.map V.int)
theorem MAt.k {K : PySem.W.Frag} {H H' : Hp} {a : Addr} {m : Mt} (k : Kx H H') (h : MAt K H a m) : MAt K H' a m := by
  obtain ⟨p, n, h1, h2, h3⟩ := h.ex
  exact ⟨p, n, k.t h1, k.t h2, k.t h3⟩
theorem rise_len : ∀ {b : Int} {ns : List Int}, -1 ≤ b → Rise b ns → (ns.length : Int) ≤ 7 - b ∨ ns = []
  | _, [], _, _ => .inr rfl
  | b, n :: ns, hb, h => by
    obtain ⟨h1, h2, h3⟩ := h
    rcases rise_len (by omega) h3 with h | rfl
    · refine .inl ?_
      rw [List.length_cons]
      omega
    · refine .inl ?_
      show ((0 + 1 : Nat) : Int) ≤ 7 - b
      omega
theorem rise_len8 {ns : List Int} (h : Rise (-1) ns) : ns.length ≤ 8 := by
  rcases rise_len (by omega) h with h | rfl
  · omega
  · exact Nat.zero_le _
theorem rise_at : ∀ {b : Int} {ns : List Int} {i : Nat} {x : Int}, Rise b ns → ns[i]? = some x → (∀ y, (b :: ns)[i]? = some y → y + 1 ≤ x) ∧ x ≤ 7
  | b, n :: ns, 0, x, h, e => by
    cases e
    refine ⟨fun y hy => ?_, h.2.1⟩
    cases hy
    exact h.1
  | b, n :: ns, i + 1, x, h, e => by
    have e' : ns[i]? = some x := by simpa using e
    have ih := rise_at h.2.2 e'
    refine ⟨fun y hy => ih.1 y ?_, ih.2⟩
    simpa using hy
/-! ### answers -/
/-- the last word's answer -/
def lastA (us : List Wd) (p o : Int) : Option Str := us.foldl (fun b w => if w.p = p ∧ w.o = o then some w.a else b) none
theorem lastA_snoc (us : List Wd) (w : Wd) (p o : Int) : lastA (us ++ [w]) p o = if w.p = p ∧ w.o = o then some w.a else lastA us p o := by
  unfold lastA
  rw [List.foldl_append] <;> rfl
/-- the greatest word so far, for a person and an hour -/
def ple (a b : Wd) : Prop := a.c < b.c ∨ (a.c = b.c ∧ a.h ≤ b.h)
instance (a b : Wd) : Decidable (ple a b) := by unfold ple; exact inferInstance
/-- the word that counts -/
structure Best (ws : List Wd) (p o : Int) (x : Wd) : Prop where
  m : x ∈ ws
  ep : x.p = p
  eo : x.o = o
  top : ∀ y ∈ ws, y.p = p → y.o = o → ple y x
/-- the answer that counts, if there is a word -/
def IsAns (ws : List Wd) (p o : Int) (r : Option Str) : Prop := (∃ x, Best ws p o x ∧ r = some x.a) ∨ ((∀ y ∈ ws, ¬ (y.p = p ∧ y.o = o)) ∧ r = none)
theorem best_uniq {ws : List Wd} {p o : Int} {x y : Wd} (al : Alike ws) (h1 : Best ws p o x) (h2 : Best ws p o y) : x = y := by
  have a := h1.top y h2.m h2.ep h2.eo
  have b := h2.top x h1.m h1.ep h1.eo
  unfold ple at a b
  exact al x h1.m y h2.m (by omega) (by omega)
theorem isAns_uniq {ws : List Wd} {p o : Int} {r s : Option Str} (al : Alike ws) (h1 : IsAns ws p o r) (h2 : IsAns ws p o s) : r = s := by
  rcases h1 with ⟨x, hx, rfl⟩ | ⟨hn, rfl⟩
  · rcases h2 with ⟨y, hy, rfl⟩ | ⟨hn, rfl⟩
    · rw [best_uniq al hx hy]
    · exact absurd ⟨hx.ep, hx.eo⟩ (hn x hx.m)
  · rcases h2 with ⟨y, hy, rfl⟩ | ⟨_, rfl⟩
    · exact absurd ⟨hy.ep, hy.eo⟩ (hn y hy.m)
    · rfl
theorem lastA_is {us : List Wd} (h : us.Pairwise plt) (p o : Int) : IsAns us p o (lastA us p o) := by
  have key : ∀ n, ∀ us : List Wd, us.length = n → us.Pairwise plt → IsAns us p o (lastA us p o) := by
    intro n
    induction n with
    | zero =>
      intro us e _
      have e0 : us = [] := List.eq_nil_of_length_eq_zero e
      subst e0
      exact .inr ⟨fun y hy => absurd hy (by simp), rfl⟩
    | succ n ih =>
      intro us e hp
      have hne : us ≠ [] := fun z => by rw [z] at e; cases e
      obtain ⟨vs, w, rfl⟩ : ∃ vs w, us = vs ++ [w] := ⟨us.dropLast, us.getLast hne, (List.dropLast_concat_getLast hne).symm⟩
      have hl : vs.length = n := by
        rw [List.length_append] at e
        exact Nat.succ.inj e
      obtain ⟨h1, _, h3⟩ := List.pairwise_append.mp hp
      have ih := ih vs hl h1
      rw [lastA_snoc]
      by_cases hw : w.p = p ∧ w.o = o
      · rw [if_pos hw]
        refine .inl ⟨w, ⟨by simp, hw.1, hw.2, fun y hy _ _ => ?_⟩, rfl⟩
        rcases List.mem_append.mp hy with hy | hy
        · have q := h3 y hy w (by simp)
          unfold plt at q
          unfold ple
          omega
        · rw [List.mem_singleton.mp hy]
          unfold ple
          omega
      · rw [if_neg hw]
        rcases ih with ⟨x, hx, ex⟩ | ⟨hn, ex⟩
        · refine .inl ⟨x, ⟨List.mem_append_left _ hx.m, hx.ep, hx.eo, fun y hy e1 e2 => ?_⟩, ex⟩
          rcases List.mem_append.mp hy with hy | hy
          · exact hx.top y hy e1 e2
          · rw [List.mem_singleton.mp hy] at e1 e2
            exact absurd ⟨e1, e2⟩ hw
        · refine .inr ⟨fun y hy => ?_, ex⟩
          rcases List.mem_append.mp hy with hy | hy
          · exact hn y hy
          · rw [List.mem_singleton.mp hy]
            exact hw
  exact key _ us rfl h
theorem isAns_once {ws us : List Wd} {p o : Int} {r : Option Str} (ho : Once ws us) (h : IsAns us p o r) : IsAns ws p o r := by
  rcases h with ⟨x, hx, e⟩ | ⟨hn, e⟩
  · exact .inl ⟨x, ⟨(ho.mem x).mp hx.m, hx.ep, hx.eo, fun y hy => hx.top y ((ho.mem y).mpr hy)⟩, e⟩
  · exact .inr ⟨fun y hy => hn y ((ho.mem y).mpr hy), e⟩
def pleO (b : Option Wd) (w : Wd) : Prop := match b with
  | some x => ple x w
  | none => True
instance (b : Option Wd) (w : Wd) : Decidable (pleO b w) := by
  cases b with
  | none => exact isTrue trivial
  | some x => exact (inferInstance : Decidable (ple x w))
/-- the law's own way: the words as they come -/
def bestW (ws : List Wd) (p o : Int) : Option Wd := ws.foldl (fun b w => if w.p = p ∧ w.o = o ∧ pleO b w then some w else b) none
theorem bestW_snoc (us : List Wd) (w : Wd) (p o : Int) : bestW (us ++ [w]) p o = if w.p = p ∧ w.o = o ∧ pleO (bestW us p o) w then some w else bestW us p o := by
  unfold bestW
  rw [List.foldl_append]
  rfl
def ansW (ws : List Wd) (p o : Int) : Option Str := (bestW ws p o).map (·.a)
theorem bestW_is (p o : Int) : ∀ ws : List Wd, match bestW ws p o with
    | some x => Best ws p o x
    | none => ∀ y ∈ ws, ¬ (y.p = p ∧ y.o = o) := by
  have key : ∀ n, ∀ us : List Wd, us.length = n → match bestW us p o with
    | some x => Best us p o x
    | none => ∀ y ∈ us, ¬ (y.p = p ∧ y.o = o) := by
    intro n
    induction n with
    | zero =>
      intro us e
      have e0 : us = [] := List.eq_nil_of_length_eq_zero e
      subst e0
      show ∀ y ∈ ([] : List Wd), ¬ (y.p = p ∧ y.o = o)
      exact fun y hy => absurd hy (by simp)
    | succ n ih =>
      intro us e
      have hne : us ≠ [] := fun z => by rw [z] at e; cases e
      obtain ⟨vs, w, rfl⟩ : ∃ vs w, us = vs ++ [w] := ⟨us.dropLast, us.getLast hne, (List.dropLast_concat_getLast hne).symm⟩
      have hl : vs.length = n := by
        rw [List.length_append] at e
        exact Nat.succ.inj e
      have ih := ih vs hl
      rw [bestW_snoc]
      cases hb : bestW vs p o with
      | none =>
        rw [hb] at ih
        have ih : ∀ y ∈ vs, ¬ (y.p = p ∧ y.o = o) := ih
        by_cases hw : w.p = p ∧ w.o = o
        · rw [if_pos ⟨hw.1, hw.2, trivial⟩]
          refine (⟨by simp, hw.1, hw.2, fun y hy e1 e2 => ?_⟩ : Best (vs ++ [w]) p o w)
          rcases List.mem_append.mp hy with hy | hy
          · exact absurd ⟨e1, e2⟩ (ih y hy)
          · rw [List.mem_singleton.mp hy]
            unfold ple
            omega
        · rw [if_neg (fun z => hw ⟨z.1, z.2.1⟩)]
          show ∀ y ∈ vs ++ [w], ¬ (y.p = p ∧ y.o = o)
          intro y hy
          rcases List.mem_append.mp hy with hy | hy
          · exact ih y hy
          · rw [List.mem_singleton.mp hy]
            exact hw
      | some x =>
        rw [hb] at ih
        have ih : Best vs p o x := ih
        by_cases hw : w.p = p ∧ w.o = o ∧ pleO (some x) w
        · rw [if_pos hw]
          refine (⟨by simp, hw.1, hw.2.1, fun y hy e1 e2 => ?_⟩ : Best (vs ++ [w]) p o w)
          rcases List.mem_append.mp hy with hy | hy
          · have a := ih.top y hy e1 e2
            have b : ple x w := hw.2.2
            unfold ple at a b ⊢
            omega
          · rw [List.mem_singleton.mp hy]
            unfold ple
            omega
        · rw [if_neg hw]
          refine (⟨List.mem_append_left _ ih.m, ih.ep, ih.eo, fun y hy e1 e2 => ?_⟩ : Best (vs ++ [w]) p o x)
          rcases List.mem_append.mp hy with hy | hy
          · exact ih.top y hy e1 e2
          · rw [List.mem_singleton.mp hy] at e1 e2 ⊢
            have z : ¬ ple x w := fun z => hw ⟨e1, e2, z⟩
            unfold ple at z ⊢
            omega
  exact fun ws => key _ ws rfl
theorem ansW_is (ws : List Wd) (p o : Int) : IsAns ws p o (ansW ws p o) := by
  have h := bestW_is p o ws
  unfold ansW
  cases hb : bestW ws p o with
  | some x =>
    rw [hb] at h
    exact .inl ⟨x, h, rfl⟩
  | none =>
    rw [hb] at h
    exact .inr ⟨h, rfl⟩
/-- both ways give the same -/
theorem lastA_eq {ws us : List Wd} (al : Alike ws) (ho : Once ws us) (p o : Int) : lastA us p o = ansW ws p o :=
  isAns_uniq al (isAns_once ho (lastA_is ho.ord p o)) (ansW_is ws p o)
theorem filter_snoc {α : Type} (p : α → Bool) (l : List α) (x : α) : (l ++ [x]).filter p = l.filter p ++ if p x = true then [x] else [] := by
  rw [List.filter_append]
  congr 1
  by_cases h : p x = true
  · rw [List.filter_cons_of_pos h, if_pos h] <;> rfl
  · rw [List.filter_cons_of_neg h, if_neg h] <;> rfl
theorem nodup_sub_len {α : Type} [DecidableEq α] : ∀ {us ws : List α}, us.Nodup → (∀ x ∈ us, x ∈ ws) → us.length ≤ ws.length
  | [], _, _, _ => Nat.zero_le _
  | x :: us, ws, nd, h => by
    obtain ⟨h1, h2⟩ := List.nodup_cons.mp nd
    have hx : x ∈ ws := h x List.mem_cons_self
    have ih := nodup_sub_len (ws := ws.erase x) h2 fun y hy => by
      have ne : y ≠ x := fun e => h1 (e ▸ hy)
      exact (List.mem_erase_of_ne ne).mpr (h y (List.mem_cons_of_mem _ hy))
    have el := List.length_erase_of_mem hx
    have pos : 0 < ws.length := List.length_pos_of_mem hx
    rw [List.length_cons]
    omega
theorem once_len {ws us : List Wd} (h : Once ws us) : us.length ≤ ws.length := by
  have nd : us.Nodup := h.ord.imp fun {a b} z e => by
    subst e
    unfold plt at z
    omega
  exact nodup_sub_len nd fun x hx => (h.mem x).mp hx
/-! ### hours -/
def comeL (ps : List Int) (cs : List Str) (f : Int → Str) : List Int := ps.filter fun x => decide (f x ∈ cs)
def canB (m : Mt) (cs : List Str) (f : Int → Str) : Bool := decide (m.e ≤ (comeL m.ps cs f).length) && m.nds.all fun x => decide (x ∈ comeL m.ps cs f)
def hoursL (m : Mt) (cs : List Str) (F : Int → Int → Str) : List Int := ((List.range 12).filter fun o => canB m cs fun x => F x (Int.ofNat o)).map Int.ofNat
def ansF (ws : List Wd) (p o : Int) : Str := (ansW ws p o).getD "no"
end CH
end

section
set_option Elab.async false
set_option linter.all false
set_option maxRecDepth 100000
namespace CH
open PySem PySem.Spec PyProof.Rows L2
/-- a change of the answers alone -/
structure Same (g : Wd → Wd) : Prop where
  c : ∀ x, (g x).c = x.c
  h : ∀ x, (g x).h = x.h
  p : ∀ x, (g x).p = x.p
  o : ∀ x, (g x).o = x.o
theorem Same.kW {g : Wd → Wd} (s : Same g) (x : Wd) : kW (g x) = kW x := by
  unfold CH.kW
  rw [s.c, s.h]
theorem Same.ple {g : Wd → Wd} (s : Same g) (b : Option Wd) (x : Wd) : pleO (b.map g) (g x) ↔ pleO b x := by
  cases b with
  | none => exact Iff.rfl
  | some y =>
    show CH.ple (g y) (g x) ↔ CH.ple y x
    unfold CH.ple
    rw [s.c, s.c, s.h, s.h]
theorem bestW_map {g : Wd → Wd} (s : Same g) (p o : Int) (ws : List Wd) : bestW (ws.map g) p o = (bestW ws p o).map g := by
  unfold bestW
  have key : ∀ (ws : List Wd) (b : Option Wd), (ws.map g).foldl (fun b w => if w.p = p ∧ w.o = o ∧ pleO b w then some w else b) (b.map g) = (ws.foldl (fun b w => if w.p = p ∧ w.o = o ∧ pleO b w then some w else b) b).map g := by
    intro ws
    induction ws with
    | nil => exact fun b => rfl
    | cons x ws ih =>
      intro b
      rw [List.map_cons, List.foldl_cons, List.foldl_cons, ← ih]
      congr 1
      by_cases h : x.p = p ∧ x.o = o ∧ pleO b x
      · rw [if_pos h, if_pos ⟨(s.p x).trans h.1, (s.o x).trans h.2.1, (s.ple b x).mpr h.2.2⟩] <;> rfl
      · rw [if_neg h, if_neg fun z => h ⟨(s.p x).symm.trans z.1, (s.o x).symm.trans z.2.1, (s.ple b x).mp z.2.2⟩]
  exact key ws none
/-- maybe is taken for yes -/
def sureA (a : Str) : Str := if a = "maybe" then "yes" else a
def sureW (x : Wd) : Wd := { x with a := sureA x.a }
theorem sureW_same : Same sureW := ⟨fun _ => rfl, fun _ => rfl, fun _ => rfl, fun _ => rfl⟩
theorem ansF_sure (ws : List Wd) (p o : Int) : ansF (ws.map sureW) p o = sureA (ansF ws p o) := by
  unfold ansF ansW
  rw [bestW_map sureW_same]
  cases bestW ws p o with
  | none =>
    show (Str.ofString "no") = sureA "no"
    unfold sureA
    rw [if_neg (by decide)]
  | some x => rfl
theorem sureA_mem (a : Str) : sureA a ∈ (["yes"] : List Str) ↔ a ∈ (["yes", "maybe"] : List Str) := by
  unfold sureA
  by_cases h : a = "maybe"
  · rw [if_pos h]
    subst h
    simp
  · rw [if_neg h]
    simp [h]
theorem comeL_congr {ps : List Int} {cs ds : List Str} {f g : Int → Str} (h : ∀ x, decide (f x ∈ cs) = decide (g x ∈ ds)) : comeL ps cs f = comeL ps ds g := by
  unfold comeL
  congr 1
  funext x
  exact h x
theorem hours_sure (m : Mt) (ws : List Wd) : hoursL m ["yes"] (ansF (ws.map sureW)) = hoursL m ["yes", "maybe"] (ansF ws) := by
  unfold hoursL canB
  congr 2
  funext o
  rw [comeL_congr (cs := ["yes"]) (ds := ["yes", "maybe"]) (f := fun x => ansF (ws.map sureW) x (Int.ofNat o)) (g := fun x => ansF ws x (Int.ofNat o)) fun x => by
    rw [ansF_sure]
    exact decide_eq_decide.mpr (sureA_mem _)]
theorem filter_le {α : Type} {p q : α → Bool} (h : ∀ x, p x = true → q x = true) : ∀ l : List α, (l.filter p).length ≤ (l.filter q).length
  | [] => Nat.le_refl _
  | x :: l => by
    have ih := filter_le h l
    rw [List.filter_cons, List.filter_cons]
    by_cases e : p x = true
    · rw [if_pos e, if_pos (h x e), List.length_cons, List.length_cons]
      omega
    · rw [if_neg e]
      split
      · rw [List.length_cons]
        omega
      · exact ih
theorem hours_sub (m : Mt) (F : Int → Int → Str) : ∀ x ∈ hoursL m ["yes"] F, x ∈ hoursL m ["yes", "maybe"] F := by
  have mono : ∀ (f : Int → Str) (x : Int), decide (f x ∈ (["yes"] : List Str)) = true → decide (f x ∈ (["yes", "maybe"] : List Str)) = true := fun f x h => by
    have h := of_decide_eq_true h
    refine decide_eq_true ?_
    rw [List.mem_singleton.mp h]
    exact .head _
  intro x hx
  unfold hoursL at hx ⊢
  obtain ⟨o, ho, rfl⟩ := List.mem_map.mp hx
  refine List.mem_map.mpr ⟨o, ?_, rfl⟩
  obtain ⟨h1, h2⟩ := List.mem_filter.mp ho
  refine List.mem_filter.mpr ⟨h1, ?_⟩
  unfold canB at h2 ⊢
  simp only [Bool.and_eq_true, decide_eq_true_eq, List.all_eq_true] at h2 ⊢
  refine ⟨?_, fun y hy => ?_⟩
  · have h3 := h2.1
    have h4 : (comeL m.ps ["yes"] fun x => F x (Int.ofNat o)).length ≤ (comeL m.ps ["yes", "maybe"] fun x => F x (Int.ofNat o)).length := filter_le (mono fun x => F x (Int.ofNat o)) m.ps
    omega
  · have h3 := h2.2 y hy
    unfold comeL at h3 ⊢
    obtain ⟨h4, h5⟩ := List.mem_filter.mp h3
    exact List.mem_filter.mpr ⟨h4, mono (fun x => F x (Int.ofNat o)) y h5⟩
theorem sureW_ok {x : Wd} (h : x.ok) : (sureW x).ok := by
  obtain ⟨h1, h2, h3, h4, h5, h6, h7, h8, h9⟩ := h
  refine ⟨h1, h2, h3, h4, h5, h6, h7, h8, ?_⟩
  show sureA x.a ∈ ansL
  unfold sureA
  split
  · unfold ansL
    exact .head _
  · exact h9
/-- two lists of ints -/
def is2D (a b : List Int) : PyData := .list [isD a, isD b]
theorem is2D_eqv (a b : List Int) : PyData.eqv (is2D a b) (is2D a b) = true := by
  have e : PyData.eqv (is2D a b) (is2D a b) = decide ([a, b] = [a, b]) := eqvAll_map isD_eqv [a, b] [a, b]
  rw [e]
  exact decide_eq_true rfl
theorem is2D_sh (a b : List Int) : SeqAt.shaped (is2D a b) = true := by
  unfold SeqAt.shaped is2D isD
  simp only [PyData.canLay0, PyData.canLayAll0, ints_lay, PyData.depth, PyData.depthAll, ints_depth]
  rfl
theorem is2D_dp {K : PySem.W.Frag} {H : Hp} {l p q : Addr} {a b : List Int} (h : SqL K H l [.ref p, .ref q]) (hp : SqL K H p (a.map V.int)) (hq : SqL K H q (b.map V.int)) : Dp K H (.ref l) (is2D a b) :=
  .lst h (.cons (isD_dp hp) (.cons (isD_dp hq) .nil))
theorem hoursL_len (m : Mt) (cs : List Str) (F : Int → Int → Str) : (hoursL m cs F).length ≤ 12 := by
  unfold hoursL
  rw [List.length_map]
  exact List.length_filter_le _ _
end CH
end

section
set_option Elab.async false
set_option linter.all false
namespace CH
open PySem PySem.Spec PyProof.Rows L2
instance (x : Wd) : Decidable x.ok := by unfold Wd.ok; exact inferInstance
instance (ws : List Wd) : Decidable (Alike ws) := by unfold Alike; exact inferInstance
theorem Kept.alike {qs : List (Addr × Wd)} {ws : List Wd} (k : Kept qs ws) : Alike ws := by
  intro a ha b hb h1 h2
  obtain ⟨p, hp, ep⟩ := List.mem_map.mp ((k.mem a).mpr ha)
  obtain ⟨q, hq, eq⟩ := List.mem_map.mp ((k.mem b).mpr hb)
  have e : kW p.2 = kW q.2 := by unfold kW; rw [ep, eq, h1, h2]
  have inj : ∀ (qs : List (Addr × Wd)), (qs.Pairwise fun a b => kW a.2 ≠ kW b.2) → p ∈ qs → q ∈ qs → p = q := by
    intro qs
    induction qs with
    | nil => exact fun _ h _ => absurd h (by simp)
    | cons x qs ih =>
      intro h hp hq
      obtain ⟨h3, h4⟩ := List.pairwise_cons.mp h
      rcases List.mem_cons.mp hp with ea | ea
      · rcases List.mem_cons.mp hq with eb | eb
        · rw [ea, eb]
        · exact absurd (ea ▸ e) (h3 q eb)
      · rcases List.mem_cons.mp hq with eb | eb
        · exact absurd (eb ▸ e).symm (h3 p ea)
        · exact ih h4 ea eb
  rw [← ep, ← eq, inj qs k.nd hp hq]
theorem at_small {α : Type} {xs : List α} {i : Int} (h0 : 0 ≤ i) (h1 : i < (xs.length : Int)) : ∃ v, atI xs i = some v ∧ v ∈ xs := by
  have e : i = ((i.toNat : Nat) : Int) := (Int.toNat_of_nonneg h0).symm
  have h2 : i.toNat < xs.length := by omega
  have z := atI_nat (List.getElem?_eq_getElem h2)
  rw [← e] at z
  exact ⟨_, z, List.getElem_mem h2⟩
/-- all of unlike count or hand -/
def Diff (ws : List Wd) : Prop := ws.Pairwise fun a b => kW a ≠ kW b
theorem Diff.alike {ws : List Wd} (h : Diff ws) : Alike ws := by
  intro a ha b hb h1 h2
  have e : kW a = kW b := by unfold kW; rw [h1, h2]
  induction ws with
  | nil => exact absurd ha (by simp)
  | cons x ws ih =>
    obtain ⟨h3, h4⟩ := List.pairwise_cons.mp h
    rcases List.mem_cons.mp ha with ea | ea
    · rcases List.mem_cons.mp hb with eb | eb
      · rw [ea, eb]
      · exact absurd (ea ▸ e) (h3 b eb)
    · rcases List.mem_cons.mp hb with eb | eb
      · exact absurd ((eb ▸ e).symm) (h3 a ea)
      · exact ih h4 ea eb
theorem cut63 {ns : List Int} (h : ns.length ≤ 63) : cutV (ns.map V.int) none (some 63) = ns.map V.int := by
  unfold cutV
  rw [HT.sIx_none, show HT.sIx (ns.map V.int).length (ns.map V.int).length (some 63) = min 63 (ns.map V.int).length from HT.sIx_nat _ _ 63]
  rw [List.length_map, List.drop_zero, Nat.min_eq_right (by omega), Nat.sub_zero]
  exact List.take_of_length_le (by rw [List.length_map]; exact Nat.le_refl _)
end CH
end

section
set_option Elab.async false
set_option linter.all false
set_option maxRecDepth 100000
namespace CH
open PySem PySem.Spec PyProof.Rows L2
theorem plt_irr {a : Wd} : ¬ plt a a := fun h => by unfold plt at h; omega
theorem plt_asym {a b : Wd} (h : plt a b) : ¬ plt b a := fun g => by unfold plt at h g; omega
theorem pw_uniq : ∀ {us vs : List Wd}, us.Pairwise plt → vs.Pairwise plt → (∀ x, x ∈ us ↔ x ∈ vs) → us = vs
  | [], [], _, _, _ => rfl
  | [], v :: vs, _, _, m => absurd ((m v).mpr (.head _)) (by simp)
  | u :: us, [], _, _, m => absurd ((m u).mp (.head _)) (by simp)
  | u :: us, v :: vs, h1, h2, m => by
    obtain ⟨a1, a2⟩ := List.pairwise_cons.mp h1
    obtain ⟨b1, b2⟩ := List.pairwise_cons.mp h2
    have e : u = v := by
      rcases List.mem_cons.mp ((m u).mp (.head _)) with h | h
      · exact h
      · rcases List.mem_cons.mp ((m v).mpr (.head _)) with g | g
        · exact g.symm
        · exact absurd (b1 u h) (plt_asym (a1 v g))
    subst e
    rw [pw_uniq a2 b2 fun x => ⟨fun hx => ?_, fun hx => ?_⟩]
    · rcases List.mem_cons.mp ((m x).mp (.tail _ hx)) with h | h
      · rw [h] at hx
        exact absurd (a1 u hx) plt_irr
      · exact h
    · rcases List.mem_cons.mp ((m x).mpr (.tail _ hx)) with h | h
      · rw [h] at hx
        exact absurd (b1 u hx) plt_irr
      · exact h
theorem once_uniq {ws us vs : List Wd} (h1 : Once ws us) (h2 : Once ws vs) : us = vs := pw_uniq h1.ord h2.ord fun x => (h1.mem x).trans (h2.mem x).symm
theorem once_mem {ws us vs : List Wd} (h : Once ws vs) (m : ∀ x, x ∈ us ↔ x ∈ ws) : Once us vs := ⟨fun x => (h.mem x).trans (m x).symm, h.ord⟩
theorem isAns_mem {ws us : List Wd} {p o : Int} {r : Option Str} (m : ∀ x, x ∈ us ↔ x ∈ ws) (h : IsAns us p o r) : IsAns ws p o r := by
  rcases h with ⟨x, hx, e⟩ | ⟨hn, e⟩
  · exact .inl ⟨x, ⟨(m x).mp hx.m, hx.ep, hx.eo, fun y hy => hx.top y ((m y).mpr hy)⟩, e⟩
  · exact .inr ⟨fun y hy => hn y ((m y).mpr hy), e⟩
theorem ansF_mem {ws us : List Wd} (al : Alike ws) (m : ∀ x, x ∈ us ↔ x ∈ ws) : ansF us = ansF ws := by
  funext p o
  unfold ansF
  rw [isAns_uniq al (isAns_mem m (ansW_is us p o)) (ansW_is ws p o)]
theorem tat_qs {H : Hp} : ∀ {ts : List Addr} {ws : List Wd}, TAt H ts ws → ∃ qs : List (Addr × Wd), qs.map (·.1) = ts ∧ qs.map (·.2) = ws ∧ PAt H qs
  | _, _, .nil => ⟨[], rfl, rfl, fun _ h => absurd h (by simp)⟩
  | t :: _, x :: _, .cons a p => by
    obtain ⟨qs, h1, h2, h3⟩ := tat_qs p
    refine ⟨(t, x) :: qs, by rw [List.map_cons, h1], by rw [List.map_cons, h2], fun q hq => ?_⟩
    rcases List.mem_cons.mp hq with rfl | hq
    · exact a
    · exact h3 q hq
theorem tat_take {H : Hp} : ∀ {ts : List Addr} {ws : List Wd} (n : Nat), TAt H ts ws → TAt H (ts.take n) (ws.take n)
  | _, _, 0, _ => by rw [List.take_zero, List.take_zero]; exact .nil
  | _, _, _ + 1, .nil => .nil
  | _, _, n + 1, .cons a p => .cons a (tat_take n p)
theorem tat_drop {H : Hp} : ∀ {ts : List Addr} {ws : List Wd} (n : Nat), TAt H ts ws → TAt H (ts.drop n) (ws.drop n)
  | _, _, 0, h => h
  | _, _, _ + 1, .nil => .nil
  | _, _, n + 1, .cons _ p => tat_drop n p
theorem tat_apps {H : Hp} {ts rs : List Addr} {ws us : List Wd} (h1 : TAt H ts ws) (h2 : TAt H rs us) : TAt H (ts ++ rs) (ws ++ us) := by
  unfold TAt at h1 h2 ⊢
  induction h1 with
  | nil => exact h2
  | cons a _ ih => exact .cons a ih
theorem tat_rev {H : Hp} : ∀ {ts : List Addr} {ws : List Wd}, TAt H ts ws → TAt H ts.reverse ws.reverse
  | _, _, .nil => .nil
  | _, _, .cons a p => by
    rw [List.reverse_cons, List.reverse_cons]
    exact tat_apps (tat_rev p) (.cons a .nil)
theorem kept_of {qs : List (Addr × Wd)} (h : (qs.map (·.2)).Pairwise fun a b => kW a ≠ kW b) : Kept qs (qs.map (·.2)) := ⟨fun x => Iff.rfl, by rw [List.pairwise_map] at h; exact h⟩
theorem cut_take {ts : List Addr} {n : Nat} : cutV (ts.map V.ref) none (some (n : Int)) = (ts.take n).map V.ref := by
  unfold cutV
  rw [HT.sIx_none, show HT.sIx (ts.map V.ref).length (ts.map V.ref).length (some (n : Int)) = min n (ts.map V.ref).length from HT.sIx_nat _ _ n]
  rw [List.drop_zero, Nat.sub_zero, List.map_take]
  by_cases h : n ≤ (ts.map V.ref).length
  · rw [Nat.min_eq_left h]
  · rw [Nat.min_eq_right (by omega), List.take_of_length_le (Nat.le_refl _), List.take_of_length_le (by omega)]
theorem cut_drop {ts : List Addr} {n : Nat} (h : n ≤ ts.length) : cutV (ts.map V.ref) (some (n : Int)) none = (ts.drop n).map V.ref := by
  unfold cutV
  rw [HT.sIx_none, show HT.sIx (ts.map V.ref).length 0 (some (n : Int)) = min n (ts.map V.ref).length from HT.sIx_nat _ _ n]
  rw [Nat.min_eq_left (by rw [List.length_map]; exact h), List.map_drop]
  exact List.take_of_length_le (by rw [List.length_drop]; exact Nat.le_refl _)
theorem diff_len {ws us : List Wd} (d : Diff ws) (h : Once ws us) : us.length = ws.length := by
  have n1 : us.Nodup := h.ord.imp fun {a b} z e => by
    subst e
    exact plt_irr z
  have n2 : ws.Nodup := List.Pairwise.imp (fun {a b} z e => z (by rw [e])) d
  exact ((List.perm_ext_iff_of_nodup n1 n2).mpr h.mem).length_eq
theorem once_part {ws us vs : List Wd} (h : Once ws us) (m : ∀ x ∈ vs, x ∈ ws) : Once vs (us.filter fun x => decide (x ∈ vs)) :=
  ⟨fun x => by
    rw [List.mem_filter, decide_eq_true_eq]
    exact ⟨fun z => z.2, fun z => ⟨(h.mem x).mpr (m x z), z⟩⟩, h.ord.filter _⟩
theorem alike_sub {ws us : List Wd} (al : Alike ws) (m : ∀ x ∈ us, x ∈ ws) : Alike us := fun a ha b hb => al a (m a ha) b (m b hb)
/-- two lists of words -/
def ws2D (a b : List Wd) : PyData := .list [wsD a, wsD b]
theorem ws2D_eqv (a b : List Wd) : PyData.eqv (ws2D a b) (ws2D a b) = true := by
  have e : PyData.eqv (ws2D a b) (ws2D a b) = decide ([a, b] = [a, b]) := eqvAll_map wsD_eqv [a, b] [a, b]
  rw [e]
  exact decide_eq_true rfl
theorem wds_lay : ∀ l : List Wd, (∀ x ∈ l, x.ok) → PyData.canLayAll0 (l.map wdD) = true
  | [], _ => rfl
  | x :: l, h => by
    obtain ⟨_, _, _, _, _, _, _, _, ha⟩ := h x List.mem_cons_self
    simp only [List.map_cons, PyData.canLayAll0, wdD_lay ha, wds_lay l fun y hy => h y (List.mem_cons_of_mem _ hy), Bool.and_self]
theorem wds_dep : ∀ l : List Wd, PyData.depthAll (l.map wdD) ≤ 1
  | [] => by simp [PyData.depthAll]
  | x :: l => by
    have ih := wds_dep l
    simp only [List.map_cons, PyData.depthAll, wdD_depth]
    omega
theorem ws2D_sh {a b : List Wd} (ha : ∀ x ∈ a, x.ok) (hb : ∀ x ∈ b, x.ok) : SeqAt.shaped (ws2D a b) = true := by
  unfold SeqAt.shaped ws2D wsD
  have e1 : (PyData.list [.list (a.map wdD), .list (b.map wdD)]).canLay0 = true := by
    simp only [PyData.canLay0, PyData.canLayAll0, wds_lay a ha, wds_lay b hb, Bool.and_self]
  have e2 : (PyData.list [.list (a.map wdD), .list (b.map wdD)]).depth ≤ 64 := by
    have := wds_dep a
    have := wds_dep b
    simp only [PyData.depth, PyData.depthAll]
    omega
  rw [e1, decide_eq_true e2]
  rfl
theorem ws2D_dp {K : PySem.W.Frag} {H : Hp} {l p q : Addr} {a b : List Wd} (h : SqL K H l [.ref p, .ref q]) (hp : WsAt K H p a) (hq : WsAt K H q b) : Dp K H (.ref l) (ws2D a b) :=
  .lst h (.cons (wsD_dp hp) (.cons (wsD_dp hq) .nil))
end CH
end

section
set_option Elab.async false
set_option linter.all false
set_option maxRecDepth 100000
/-! words sorted, alike ones left in -/
namespace CH
open PySem PySem.Spec PyProof.Rows L2
theorem srt_of {H : Hp} {qs : List (Addr × Wd)} {ts' : List Addr} (hp : PAt H qs) (p : ts'.Perm (qs.map (·.1))) (s : ts'.Pairwise fun x y => HT.lexLt (keyOf (wkOf H) y) (keyOf (wkOf H) x) = false) :
    ∃ us, TAt H ts' us ∧ us.Perm (qs.map (·.2)) ∧ us.Pairwise ple := by
  obtain ⟨rs, pr, er⟩ := perm_lift (fun q : Addr × Wd => q.1) p qs rfl
  subst er
  have hr : ∀ q ∈ rs, H q.1 = some (.tup q.2.V) := fun q hq => hp q (pr.mem_iff.mp hq)
  refine ⟨rs.map (·.2), ?_, pr.map _, ?_⟩
  · have all : ∀ l : List (Addr × Wd), (∀ q ∈ l, H q.1 = some (.tup q.2.V)) → TAt H (l.map (·.1)) (l.map (·.2)) := by
      intro l
      induction l with
      | nil => intro _; exact .nil
      | cons q l ih => intro h; exact .cons (h q List.mem_cons_self) (ih fun p hp => h p (List.mem_cons_of_mem _ hp))
    exact all rs hr
  · rw [List.pairwise_map] at s ⊢
    refine List.Pairwise.imp_of_mem (fun {a b} ha hb h => ?_) s
    have ea := wkOf_eq (hr a ha)
    have eb := wkOf_eq (hr b hb)
    have h1' : HT.lexLt (wkey b.2.ints b.2.a) (wkey a.2.ints a.2.a) = false := by
      have z : HT.lexLt (keyOf (wkOf H) b.1) (keyOf (wkOf H) a.1) = false := h
      unfold keyOf at z
      rw [ea, eb] at z
      exact z
    have h1'' : HT.lexLt (b.2.c :: b.2.h :: b.2.p :: b.2.o :: strInts b.2.a) (a.2.c :: a.2.h :: a.2.p :: a.2.o :: strInts a.2.a) = false := h1'
    rw [HT.lexLt_cons] at h1''
    by_cases e : b.2.c = a.2.c
    · rw [if_pos e, HT.lexLt_cons] at h1''
      by_cases e2 : b.2.h = a.2.h
      · exact .inr ⟨e.symm, by omega⟩
      · rw [if_neg e2] at h1''
        have := of_decide_eq_false h1''
        exact .inr ⟨e.symm, by omega⟩
    · rw [if_neg e] at h1''
      have := of_decide_eq_false h1''
      exact .inl (by omega)
theorem lastA_isW {us : List Wd} (h : us.Pairwise ple) (p o : Int) : IsAns us p o (lastA us p o) := by
  have key : ∀ n, ∀ us : List Wd, us.length = n → us.Pairwise ple → IsAns us p o (lastA us p o) := by
    intro n
    induction n with
    | zero =>
      intro us e _
      have e0 : us = [] := List.eq_nil_of_length_eq_zero e
      subst e0
      exact .inr ⟨fun y hy => absurd hy (by simp), rfl⟩
    | succ n ih =>
      intro us e hp
      have hne : us ≠ [] := fun z => by rw [z] at e; cases e
      obtain ⟨vs, w, rfl⟩ : ∃ vs w, us = vs ++ [w] := ⟨us.dropLast, us.getLast hne, (List.dropLast_concat_getLast hne).symm⟩
      have hl : vs.length = n := by
        rw [List.length_append] at e
        exact Nat.succ.inj e
      obtain ⟨h1, _, h3⟩ := List.pairwise_append.mp hp
      have ih := ih vs hl h1
      rw [lastA_snoc]
      by_cases hw : w.p = p ∧ w.o = o
      · rw [if_pos hw]
        refine .inl ⟨w, ⟨by simp, hw.1, hw.2, fun y hy _ _ => ?_⟩, rfl⟩
        rcases List.mem_append.mp hy with hy | hy
        · have q := h3 y hy w (by simp)
          exact q
        · rw [List.mem_singleton.mp hy]
          unfold ple
          omega
      · rw [if_neg hw]
        rcases ih with ⟨x, hx, ex⟩ | ⟨hn, ex⟩
        · refine .inl ⟨x, ⟨List.mem_append_left _ hx.m, hx.ep, hx.eo, fun y hy e1 e2 => ?_⟩, ex⟩
          rcases List.mem_append.mp hy with hy | hy
          · exact hx.top y hy e1 e2
          · rw [List.mem_singleton.mp hy] at e1 e2
            exact absurd ⟨e1, e2⟩ hw
        · refine .inr ⟨fun y hy => ?_, ex⟩
          rcases List.mem_append.mp hy with hy | hy
          · exact hn y hy
          · rw [List.mem_singleton.mp hy]
            exact hw
  exact key _ us rfl h
theorem lastA_srt {ws us : List Wd} (al : Alike ws) (pm : us.Perm ws) (hs : us.Pairwise ple) (p o : Int) : lastA us p o = ansW ws p o :=
  isAns_uniq al (isAns_mem (fun x => pm.mem_iff) (lastA_isW hs p o)) (ansW_is ws p o)
end CH
end

section
set_option Elab.async false
set_option linter.all false
set_option maxRecDepth 100000
/-! fields: numbers, lists of numbers, lists of such lists -/
namespace CH
open PySem PySem.Spec PyProof.Rows L2
theorem ixn_at {n j : Nat} (hj : j < n) : ixN n (j : Int) = some j := by
  unfold ixN
  rw [if_pos (Int.natCast_nonneg j), if_pos (by omega), Int.toNat_natCast]
/-- an element of a field that is a list: a number, or a list of numbers -/
abbrev El := Sum Int (List Int)
def El.at_ (K : PySem.W.Frag) (H : Hp) (v : V) : El → Prop
  | .inl n => v = .int n
  | .inr r => ∃ t, v = .ref t ∧ SqL K H t (r.map V.int) ∧ r.length ≤ 1000
def El.new (H0 H : Hp) (v : V) : El → Prop
  | .inl n => v = .int n
  | .inr r => ∃ t, v = .ref t ∧ H t = some (.lst (r.map V.int)) ∧ H0 t = none ∧ r.length ≤ 1000
theorem El.at_k {K : PySem.W.Frag} {H H' : Hp} {v : V} {e : El} (k : Kx H H') (h : El.at_ K H v e) : El.at_ K H' v e := by
  cases e with
  | inl n => exact h
  | inr r =>
    obtain ⟨t, a, b, c⟩ := h
    exact ⟨t, a, k.l b, c⟩
/-- the new elements so far: none of them is told or rest, none twice -/
structure Cp (H0 H : Hp) (p q : Addr) (ns : List V) (es : List El) : Prop where
  pr : Paired (El.new H0 H) ns es
  d : ∀ t, V.ref t ∈ ns → t ≠ p ∧ t ≠ q
  n : ∀ (i j : Nat) (t : Addr), ns[i]? = some (V.ref t) → ns[j]? = some (V.ref t) → i = j
theorem Cp.nil {H0 H : Hp} {p q : Addr} : Cp H0 H p q [] [] := ⟨.nil, fun t h => absurd h (by simp), fun i j t h => by simp at h⟩
theorem Cp.mono {H0 H H' : Hp} {p q : Addr} {ns : List V} {es : List El} (h : Cp H0 H p q ns es) (k : ∀ t o, t ≠ p → t ≠ q → H t = some o → (∀ ps, o ≠ .tbl ps) → H' t = some o) : Cp H0 H' p q ns es := by
  refine ⟨?_, h.d, h.n⟩
  have go : ∀ {l : List V} {m : List El}, Paired (El.new H0 H) l m → (∀ t, V.ref t ∈ l → t ≠ p ∧ t ≠ q) → Paired (El.new H0 H') l m := by
    intro l m z
    induction z with
    | nil => intro _; exact .nil
    | @cons v e l m r t ih =>
      intro hd
      refine .cons ?_ (ih fun t ht => hd t (List.mem_cons_of_mem _ ht))
      cases e with
      | inl n => exact r
      | inr x =>
        obtain ⟨t, rfl, b, c, d⟩ := r
        obtain ⟨d1, d2⟩ := hd t List.mem_cons_self
        exact ⟨t, rfl, k t _ d1 d2 b (fun _ z => nomatch z), c, d⟩
  exact go h.pr h.d
theorem Cp.snoc {H0 H : Hp} {p q : Addr} {ns : List V} {es : List El} {v : V} {e : El} (h : Cp H0 H p q ns es) (hv : El.new H0 H v e) (hd : ∀ t, v = .ref t → t ≠ p ∧ t ≠ q ∧ V.ref t ∉ ns) : Cp H0 H p q (ns ++ [v]) (es ++ [e]) := by
  refine ⟨paired_snoc h.pr hv, fun t ht => ?_, fun i j t hi hj => ?_⟩
  · rcases List.mem_append.mp ht with z | z
    · exact h.d t z
    · have e := List.mem_singleton.mp z
      exact ⟨(hd t e.symm).1, (hd t e.symm).2.1⟩
  · have lt : ∀ i, (ns ++ [v])[i]? = some (V.ref t) → (i < ns.length ∧ ns[i]? = some (V.ref t)) ∨ (i = ns.length ∧ v = .ref t) := fun i hi => by
      by_cases z : i < ns.length
      · rw [List.getElem?_append_left z] at hi
        exact .inl ⟨z, hi⟩
      · rw [List.getElem?_append_right (Nat.le_of_not_lt z)] at hi
        have : i - ns.length = 0 := by
          cases e : i - ns.length with
          | zero => rfl
          | succ m => rw [e] at hi; simp at hi
        rw [this] at hi
        exact .inr ⟨by omega, by simpa using hi⟩
    rcases lt i hi with ⟨a, b⟩ | ⟨a, b⟩ <;> rcases lt j hj with ⟨c, d⟩ | ⟨c, d⟩
    · exact h.n i j t b d
    · exact absurd (List.mem_of_getElem? b) (hd t d).2.2
    · exact absurd (List.mem_of_getElem? d) (hd t b).2.2
    · rw [a, c]
/-- a field's list, new: of numbers -/
theorem new_ints {H0 H : Hp} : ∀ {vs : List V} {ns : List Int}, Paired (El.new H0 H) vs (ns.map Sum.inl) → vs = ns.map V.int
  | [], [], _ => rfl
  | [], _ :: _, h => nomatch h
  | _ :: _, [], h => nomatch h
  | v :: vs, n :: ns, .cons a t => by
    rw [List.map_cons, new_ints t, show v = .int n from a]
theorem at_ints {K : PySem.W.Frag} {H : Hp} : ∀ (ns : List Int), Paired (El.at_ K H) (ns.map V.int) (ns.map Sum.inl)
  | [] => .nil
  | n :: ns => .cons rfl (at_ints ns)
/-- .. of lists of numbers -/
def RowsAt (H : Hp) (ts : List Addr) (rs : List (List Int)) : Prop := Paired (fun t (r : List Int) => H t = some (.lst (r.map V.int)) ∧ r.length ≤ 1000) ts rs
def RowsIn (K : PySem.W.Frag) (H : Hp) (ts : List Addr) (rs : List (List Int)) : Prop := Paired (fun t (r : List Int) => SqL K H t (r.map V.int) ∧ r.length ≤ 1000) ts rs
theorem RowsAt.in_ {K : PySem.W.Frag} {H : Hp} {ts : List Addr} {rs : List (List Int)} (h : RowsAt H ts rs) : RowsIn K H ts rs := by
  induction h with
  | nil => exact .nil
  | cons r t ih => exact .cons ⟨sq_of r.1, r.2⟩ ih
theorem RowsAt.k {H H' : Hp} {ts : List Addr} {rs : List (List Int)} (k : Kx H H') (h : RowsAt H ts rs) : RowsAt H' ts rs := by
  induction h with
  | nil => exact .nil
  | cons r t ih => exact .cons ⟨k.lst r.1, r.2⟩ ih
theorem RowsAt.up {H : Hp} {p : Addr} {o : HO} {ts : List Addr} {rs : List (List Int)} (h : RowsAt H ts rs) (n : ∀ t ∈ ts, t ≠ p) : RowsAt (upd H p o) ts rs := by
  induction h with
  | nil => exact .nil
  | @cons t r ts rs a b ih =>
    refine .cons ⟨?_, a.2⟩ (ih fun t ht => n t (List.mem_cons_of_mem _ ht))
    rw [upd_ne (n t List.mem_cons_self)]
    exact a.1
theorem RowsIn.k {K : PySem.W.Frag} {H H' : Hp} {ts : List Addr} {rs : List (List Int)} (k : Kx H H') (h : RowsIn K H ts rs) : RowsIn K H' ts rs := by
  induction h with
  | nil => exact .nil
  | cons r t ih => exact .cons ⟨k.l r.1, r.2⟩ ih
theorem at_rows {K : PySem.W.Frag} {H : Hp} {ts : List Addr} {rs : List (List Int)} (h : RowsIn K H ts rs) : Paired (El.at_ K H) (ts.map V.ref) (rs.map Sum.inr) := by
  induction h with
  | nil => exact .nil
  | cons r t ih => exact .cons ⟨_, rfl, r.1, r.2⟩ ih
theorem RowsAt.set_ {H : Hp} : ∀ {ts : List Addr} {rs : List (List Int)} {i : Nat} {t : Addr} {ns : List Int}, RowsAt H ts rs → ts.Nodup → ts[i]? = some t → ns.length ≤ 1000 → RowsAt (upd H t (.lst (ns.map V.int))) ts (rs.set i ns)
  | _, _, _, _, _, .nil, _, hi, _ => by simp at hi
  | t0 :: ts, r0 :: rs, 0, t, ns, .cons a b, nd, hi, hn => by
    have e : t0 = t := by simpa using hi
    subst e
    obtain ⟨n1, n2⟩ := List.nodup_cons.mp nd
    exact .cons ⟨upd_same, hn⟩ (RowsAt.up b fun y hy z => n1 (z ▸ hy))
  | t0 :: ts, r0 :: rs, i + 1, t, ns, .cons a b, nd, hi, hn => by
    obtain ⟨n1, n2⟩ := List.nodup_cons.mp nd
    have hi' : ts[i]? = some t := by simpa using hi
    have ne : t0 ≠ t := fun z => n1 (z ▸ List.mem_of_getElem? hi')
    exact .cons ⟨by rw [upd_ne ne]; exact a.1, a.2⟩ (RowsAt.set_ b n2 hi' hn)
/-- the rows of an answer: new, none twice, none is the list -/
structure RowsNew (H0 H : Hp) (l : Addr) (ts : List Addr) (rs : List (List Int)) : Prop where
  at_ : RowsAt H ts rs
  new : ∀ t ∈ ts, H0 t = none
  ne : ∀ t ∈ ts, t ≠ l
  nd : ts.Nodup
theorem new_rows {H0 H : Hp} {p q : Addr} : ∀ {vs : List V} {rs : List (List Int)}, Paired (El.new H0 H) vs (rs.map Sum.inr) → ∃ ts : List Addr, vs = ts.map V.ref ∧ RowsAt H ts rs ∧ ∀ t ∈ ts, H0 t = none
  | [], [], _ => ⟨[], rfl, .nil, fun t h => absurd h (by simp)⟩
  | [], _ :: _, h => nomatch h
  | _ :: _, [], h => nomatch h
  | v :: vs, r :: rs, .cons a t => by
    obtain ⟨ts, e, b, c⟩ := new_rows (p := p) (q := q) t
    obtain ⟨x, rfl, h1, h2, h3⟩ := a
    refine ⟨x :: ts, by rw [e]; rfl, .cons ⟨h1, h3⟩ b, fun y hy => ?_⟩
    rcases List.mem_cons.mp hy with rfl | hy
    · exact h2
    · exact c y hy
theorem Cp.rows {H0 H : Hp} {p q : Addr} {vs : List V} {rs : List (List Int)} (h : Cp H0 H p q vs (rs.map Sum.inr)) : ∃ ts : List Addr, vs = ts.map V.ref ∧ RowsNew H0 H p ts rs := by
  obtain ⟨ts, rfl, b, c⟩ := new_rows (p := p) (q := q) h.pr
  refine ⟨ts, rfl, b, c, fun t ht => (h.d t (List.mem_map.mpr ⟨t, ht, rfl⟩)).1, ?_⟩
  refine List.pairwise_iff_getElem.mpr fun i j hi hj hij e => ?_
  have z : ts[j]? = some ts[j] := List.getElem?_eq_getElem hj
  have z0 : ts[i]? = some ts[j] := by rw [List.getElem?_eq_getElem hi, e]
  have a1 : (ts.map V.ref)[i]? = some (V.ref ts[j]) := by rw [List.getElem?_map, z0] <;> rfl
  have a2 : (ts.map V.ref)[j]? = some (V.ref ts[j]) := by rw [List.getElem?_map, z] <;> rfl
  exact absurd (h.n i j _ a1 a2) (by omega)
end CH
end

section
set_option Elab.async false
set_option linter.all false
set_option maxRecDepth 100000
namespace CH
open PySem PySem.Spec PyProof.Rows L2
/-- people bar a meeting at an hour -/
def barsB (m : Mt) (f : Int → Option Str) (ns : List Int) : Bool :=
  decide ns.Nodup && (ns.all fun x => decide (x ∈ m.ps)) && (ns.all fun x => !decide ((f x).getD "no" = "yes")) && (decide ((m.ps.length : Int) - m.e < (ns.length : Int)) || ns.any fun x => decide (x ∈ m.nds))
theorem cutV_take {xs : List V} {n : Nat} : cutV xs none (some (n : Int)) = xs.take n := by
  unfold cutV
  rw [HT.sIx_none, show HT.sIx xs.length xs.length (some (n : Int)) = min n xs.length from HT.sIx_nat _ _ n]
  rw [List.drop_zero, Nat.sub_zero]
  by_cases h : n ≤ xs.length
  · rw [Nat.min_eq_left h]
  · rw [Nat.min_eq_right (by omega), List.take_length, List.take_of_length_le (by omega)]
theorem cutV_drop {xs : List V} {n : Nat} : cutV xs (some (n : Int)) none = xs.drop n := by
  unfold cutV
  rw [HT.sIx_none, show HT.sIx xs.length 0 (some (n : Int)) = min n xs.length from HT.sIx_nat _ _ n]
  by_cases h : n ≤ xs.length
  · rw [Nat.min_eq_left h]
    exact List.take_of_length_le (by rw [List.length_drop]; exact Nat.le_refl _)
  · rw [Nat.min_eq_right (by omega), List.drop_length, List.take_nil, List.drop_eq_nil_of_le (by omega)]
theorem hoursL_mem {m : Mt} {cs : List Str} {F : Int → Int → Str} {h : Int} (z : h ∈ hoursL m cs F) : 0 ≤ h ∧ h ≤ 11 := by
  unfold hoursL at z
  obtain ⟨o, ho, rfl⟩ := List.mem_map.mp z
  have := List.mem_range.mp (List.mem_filter.mp ho).1
  show (0 : Int) ≤ (o : Int) ∧ (o : Int) ≤ 11
  omega
/-- what At tells -/
def atB (m : Mt) (ws : List Wd) (h : Int) : Bool := decide ((hoursL m ["yes"] (ansF ws)).take 1 = [h])
/-- what Barred tells -/
def barredB (m : Mt) (ws : List Wd) (rs : List (List Int)) : Bool := decide (rs.length = 12) && (List.range rs.length).all fun i => barsB m (fun x => ansW ws x (i : Nat)) (rs.getD i [])
/-- words as shows takes them -/
structure Words (K : PySem.W.Frag) (H : Hp) (l : Addr) (ws : List Wd) : Prop where
  ex : ∃ ts : List Addr, SqL K H l (ts.map V.ref) ∧ TAt H ts ws
  h80 : ws.length ≤ 80
  ok : ∀ x ∈ ws, x.ok
  al : Alike ws
theorem Words.k {K : PySem.W.Frag} {H H' : Hp} {l : Addr} {ws : List Wd} (k : Kx H H') (h : Words K H l ws) : Words K H' l ws := by
  obtain ⟨⟨ts, a, b⟩, c, d, e⟩ := h
  exact ⟨⟨ts, k.l a, b.k k⟩, c, d, e⟩
theorem Words.at_ {K : PySem.W.Frag} {H : Hp} {l : Addr} {ws : List Wd} (h : Words K H l ws) : WsAt K H l ws := by
  obtain ⟨⟨ts, a, b⟩, c, d, e⟩ := h
  exact ⟨ts, a, b.w⟩
def notYes (m : Mt) (f : Int → Option Str) : List Int := m.ps.filter fun x => !decide ((f x).getD "no" = "yes")
theorem rise_gt : ∀ {ns : List Int} {b : Int}, Rise b ns → ∀ x ∈ ns, b < x
  | [], _, _, x, h => absurd h (by simp)
  | y :: ys, b, r, x, h => by
    obtain ⟨r1, r2, r3⟩ := r
    rcases List.mem_cons.mp h with rfl | h
    · omega
    · have := rise_gt r3 x h
      omega
theorem rise_nodup : ∀ {ns : List Int} {b : Int}, Rise b ns → ns.Nodup
  | [], _, _ => List.nodup_nil
  | y :: ys, b, r => by
    obtain ⟨r1, r2, r3⟩ := r
    refine List.nodup_cons.mpr ⟨fun h => ?_, rise_nodup r3⟩
    have := rise_gt r3 y h
    omega
theorem notYes_split (m : Mt) (f : Int → Option Str) : (comeL m.ps ["yes"] fun x => (f x).getD "no").length + (notYes m f).length = m.ps.length := by
  unfold comeL notYes
  generalize m.ps = ps
  induction ps with
  | nil => rfl
  | cons x xs ih =>
    have hm : ((f x).getD "no" ∈ [("yes" : Str)]) ↔ (f x).getD "no" = "yes" := List.mem_singleton
    by_cases h : (f x).getD "no" = "yes"
    · rw [List.filter_cons_of_pos (p := fun x => decide ((fun x => (f x).getD "no") x ∈ [("yes" : Str)])) (decide_eq_true (hm.mpr h)), List.filter_cons_of_neg (p := fun x => !decide ((f x).getD "no" = "yes")) (by rw [decide_eq_true h]; decide), List.length_cons, List.length_cons]
      omega
    · rw [List.filter_cons_of_neg (p := fun x => decide ((fun x => (f x).getD "no") x ∈ [("yes" : Str)])) (by rw [decide_eq_false (fun z => h (hm.mp z))]; decide), List.filter_cons_of_pos (p := fun x => !decide ((f x).getD "no" = "yes")) (by rw [decide_eq_false h]; rfl), List.length_cons, List.length_cons]
      omega
theorem bars_all {m : Mt} {f : Int → Option Str} (mok : m.ok) (h : (canB m ["yes"] fun x => (f x).getD "no") = false) : barsB m f (notYes m f) = true := by
  have hs := notYes_split m f
  unfold barsB
  have h1 : (notYes m f).Nodup := List.Nodup.sublist (List.filter_sublist) (rise_nodup mok.p)
  have h2 : ((notYes m f).all fun x => decide (x ∈ m.ps)) = true := List.all_eq_true.mpr fun x hx => decide_eq_true (List.mem_filter.mp hx).1
  have h3 : ((notYes m f).all fun x => !decide ((f x).getD "no" = "yes")) = true := List.all_eq_true.mpr fun x hx => (List.mem_filter.mp hx).2
  rw [decide_eq_true h1, h2, h3, Bool.true_and, Bool.true_and, Bool.true_and]
  unfold canB at h
  rw [Bool.and_eq_false_iff] at h
  rw [Bool.or_eq_true]
  rcases h with h | h
  · left
    have := of_decide_eq_false h
    exact decide_eq_true (by omega)
  · right
    obtain ⟨x, hx, hn⟩ := List.all_eq_false.mp h
    have hp := mok.sub x hx
    have hn' : ¬ x ∈ comeL m.ps ["yes"] fun x => (f x).getD "no" := by simpa using hn
    refine List.any_eq_true.mpr ⟨x, List.mem_filter.mpr ⟨hp, ?_⟩, decide_eq_true hx⟩
    by_cases z : (f x).getD "no" = "yes"
    · exact absurd (List.mem_filter.mpr ⟨hp, decide_eq_true (by show (f x).getD "no" ∈ [("yes" : Str)]; rw [z]; exact List.mem_cons_self)⟩) hn'
    · rw [decide_eq_false z] <;> rfl
theorem bars_nil {m : Mt} {f : Int → Option Str} (mok : m.ok) : barsB m f [] = false := by
  unfold barsB
  have := mok.e2
  rw [show decide ((m.ps.length : Int) - m.e < (([] : List Int).length : Int)) = false from decide_eq_false (by show ¬ (m.ps.length : Int) - m.e < 0; omega)]
  simp
/-- the rows that are told -/
def toldRows (m : Mt) (ws : List Wd) : List (List Int) := (List.range 12).map fun o => notYes m fun x => ansW ws x (o : Nat)
theorem toldRows_at {m : Mt} {ws : List Wd} {i : Nat} (h : i < 12) : (toldRows m ws).getD i [] = notYes m fun x => ansW ws x (i : Nat) := by
  unfold toldRows
  rw [List.getD_eq_getElem?_getD, List.getElem?_map, List.getElem?_range h] <;> rfl
theorem hoursL_nil {m : Mt} {ws : List Wd} (h : hoursL m ["yes"] (ansF ws) = []) {i : Nat} (hi : i < 12) : (canB m ["yes"] fun x => (ansW ws x (i : Nat)).getD "no") = false := by
  refine Bool.eq_false_iff.mpr fun z => ?_
  have : Int.ofNat i ∈ hoursL m ["yes"] (ansF ws) := List.mem_map.mpr ⟨i, List.mem_filter.mpr ⟨List.mem_range.mpr hi, z⟩, rfl⟩
  rw [h] at this
  exact absurd this (by simp)
theorem told_barred {m : Mt} {ws : List Wd} (mok : m.ok) (h : hoursL m ["yes"] (ansF ws) = []) : barredB m ws (toldRows m ws) = true := by
  have l : (toldRows m ws).length = 12 := by unfold toldRows; rw [List.length_map, List.length_range]
  unfold barredB
  rw [l, decide_eq_true rfl, Bool.true_and, List.all_eq_true]
  intro i hi
  have hi := List.mem_range.mp hi
  rw [toldRows_at hi]
  exact bars_all mok (hoursL_nil h hi)
theorem told_at {m : Mt} {ws : List Wd} {h : Int} {hs : List Int} (e : hoursL m ["yes"] (ansF ws) = h :: hs) : atB m ws h = true := by
  unfold atB
  rw [e]
  exact decide_eq_true rfl
/-- one row emptied -/
theorem barred_empty {m : Mt} {ws : List Wd} {rs : List (List Int)} (mok : m.ok) (i : Nat) (h : i < rs.length) (e : rs.getD i [] = []) : barredB m ws rs = false := by
  unfold barredB
  rw [Bool.and_eq_false_iff]
  right
  refine List.all_eq_false.mpr ⟨i, List.mem_range.mpr h, ?_⟩
  rw [e, bars_nil mok]
  decide
theorem barred_long {m : Mt} {ws : List Wd} {rs : List (List Int)} (h : rs.length ≠ 12) : barredB m ws rs = false := by
  unfold barredB
  rw [decide_eq_false h]
  rfl
/-- truths as data -/
def bsD (bs : List Bool) : PyData := .list (bs.map PyData.bool)
theorem bool_eqv (a b : Bool) : PyData.eqv (.bool a) (.bool b) = decide (a = b) := by cases a <;> cases b <;> rfl
theorem bsD_eqv (xs ys : List Bool) : PyData.eqv (bsD xs) (bsD ys) = decide (xs = ys) := eqvAll_map bool_eqv xs ys
theorem bls_dp {K : PySem.W.Frag} {H : Hp} : ∀ bs : List Bool, DpAll K H (bs.map V.bl) (bs.map PyData.bool)
  | [] => .nil
  | b :: bs => .cons (.bl b) (bls_dp bs)
theorem bsD_dp {K : PySem.W.Frag} {H : Hp} {l : Addr} {bs : List Bool} (h : SqL K H l (bs.map V.bl)) : Dp K H (.ref l) (bsD bs) := .lst h (bls_dp bs)
theorem bls_lay : ∀ bs : List Bool, PyData.canLayAll0 (bs.map PyData.bool) = true
  | [] => rfl
  | b :: bs => by simp only [List.map_cons, PyData.canLayAll0, PyData.canLay0, bls_lay bs, Bool.and_self]
theorem bls_depth : ∀ bs : List Bool, PyData.depthAll (bs.map PyData.bool) = 0
  | [] => rfl
  | b :: bs => by
    simp only [List.map_cons, PyData.depthAll, PyData.depth, bls_depth bs]
    rfl
theorem bsD_sh (bs : List Bool) : SeqAt.shaped (bsD bs) = true := by
  unfold SeqAt.shaped bsD
  simp only [PyData.canLay0, bls_lay, PyData.depth, bls_depth]
  rfl
theorem words_of {K : PySem.W.Frag} {H : Hp} {p : Addr} {ts : List Addr} {ws us : List Wd} (hp : H p = some (.lst (ts.map V.ref))) (ht : TAt H ts us) (h80 : ws.length ≤ 80) (ok : ∀ x ∈ ws, x.ok) (al : Alike ws) (l : us.length ≤ ws.length) (m : ∀ x ∈ us, x ∈ ws) : Words K H p us :=
  ⟨⟨ts, sq_of hp, ht⟩, by omega, fun x hx => ok x (m x hx), alike_sub al m⟩
/-- lists of lists of numbers as data -/
def rsD (rs : List (List Int)) : PyData := .list (rs.map isD)
theorem rsD_eqv (xs ys : List (List Int)) : PyData.eqv (rsD xs) (rsD ys) = decide (xs = ys) := eqvAll_map isD_eqv xs ys
theorem rsD_dp {K : PySem.W.Frag} {H : Hp} {l : Addr} {ts : List Addr} {rs : List (List Int)} (h : SqL K H l (ts.map V.ref)) (hr : RowsIn K H ts rs) : Dp K H (.ref l) (rsD rs) := by
  refine .lst h ?_
  clear h
  induction hr with
  | nil => exact .nil
  | cons r t ih => exact .cons (isD_dp r.1) ih
theorem rsD_sh (rs : List (List Int)) : SeqAt.shaped (rsD rs) = true := by
  have lay : ∀ l : List (List Int), PyData.canLayAll0 (l.map isD) = true := by
    intro l
    induction l with
    | nil => rfl
    | cons x l ih =>
      have e : (isD x).canLay0 = true := by
        unfold isD
        simp only [PyData.canLay0, ints_lay]
      simp only [List.map_cons, PyData.canLayAll0, e, ih, Bool.and_self]
  have dep : ∀ l : List (List Int), PyData.depthAll (l.map isD) ≤ 1 := by
    intro l
    induction l with
    | nil => simp [PyData.depthAll]
    | cons x l ih =>
      have e : (isD x).depth ≤ 1 := by
        unfold isD
        simp only [PyData.depth, ints_depth]
        decide
      simp only [List.map_cons, PyData.depthAll]
      omega
  unfold SeqAt.shaped rsD
  have e1 : (PyData.list (rs.map isD)).canLay0 = true := by
    simp only [PyData.canLay0]
    exact lay rs
  have e2 : (PyData.list (rs.map isD)).depth ≤ 64 := by
    simp only [PyData.depth]
    have := dep rs
    omega
  rw [e1, decide_eq_true e2]
  rfl
/-- a list of rows, few and short -/
def RsOk (K : PySem.W.Frag) (H : Hp) (q : Addr) : Prop := ∃ (ts : List Addr) (rs : List (List Int)), SqL K H q (ts.map V.ref) ∧ RowsIn K H ts rs ∧ rs.length ≤ 100 ∧ ∀ x ∈ rs, x.length ≤ 900
theorem RsOk.k {K : PySem.W.Frag} {H H' : Hp} {q : Addr} (k : Kx H H') (h : RsOk K H q) : RsOk K H' q := by
  obtain ⟨ts, rs, a, b, c, d⟩ := h
  exact ⟨ts, rs, k.l a, b.k k, c, d⟩
theorem RowsIn.take {K : PySem.W.Frag} {H : Hp} : ∀ {ts : List Addr} {rs : List (List Int)} (n : Nat), RowsIn K H ts rs → RowsIn K H (ts.take n) (rs.take n)
  | _, _, 0, _ => by rw [List.take_zero, List.take_zero]; exact .nil
  | _, _, _ + 1, .nil => .nil
  | _, _, n + 1, .cons a p => .cons a (RowsIn.take n p)
theorem RowsIn.drop {K : PySem.W.Frag} {H : Hp} : ∀ {ts : List Addr} {rs : List (List Int)} (n : Nat), RowsIn K H ts rs → RowsIn K H (ts.drop n) (rs.drop n)
  | _, _, 0, h => h
  | _, _, _ + 1, .nil => .nil
  | _, _, n + 1, .cons _ p => RowsIn.drop n p
theorem RowsIn.app {K : PySem.W.Frag} {H : Hp} {ts us : List Addr} {rs ss : List (List Int)} (h : RowsIn K H ts rs) (g : RowsIn K H us ss) : RowsIn K H (ts ++ us) (rs ++ ss) := by
  induction h with
  | nil => exact g
  | cons a t ih => exact .cons a ih
theorem RowsIn.rev {K : PySem.W.Frag} {H : Hp} {ts : List Addr} {rs : List (List Int)} (h : RowsIn K H ts rs) : RowsIn K H ts.reverse rs.reverse := by
  induction h with
  | nil => exact .nil
  | cons a t ih =>
    rw [List.reverse_cons, List.reverse_cons]
    exact ih.app (.cons a .nil)
theorem RowsIn.rep {K : PySem.W.Frag} {H : Hp} {t : Addr} {r : List Int} (h : SqL K H t (r.map V.int)) (l : r.length ≤ 1000) : ∀ n : Nat, RowsIn K H (List.replicate n t) (List.replicate n r)
  | 0 => .nil
  | n + 1 => .cons ⟨h, l⟩ (RowsIn.rep h l n)
end CH
end

section
set_option Elab.async false
set_option linter.all false
set_option maxRecDepth 100000
set_option maxHeartbeats 4000000
/-! written data, laid in one step -/
namespace CH
open PySem PySem.Spec PyProof.Rows L2
/-- data as a program writes them -/
inductive Lt where
  | int (i : Int)
  | str (x : Str)
  | bl (b : Bool)
  | non
  | tup (l : List Lt)
  | lst (l : List Lt)
mutual
/-- such data stand at a value, all new or not -/
def Lt.at_ (H : Hp) : Lt → V → Prop
  | .int i, v => v = .int i
  | .str x, v => v = .str x
  | .bl b, v => v = .bl b
  | .non, v => v = .non
  | .tup l, v => ∃ a vs, v = .ref a ∧ H a = some (.tup vs) ∧ Lt.ats H l vs
  | .lst l, v => ∃ a vs, v = .ref a ∧ H a = some (.lst vs) ∧ Lt.ats H l vs
def Lt.ats (H : Hp) : List Lt → List V → Prop
  | [], vs => vs = []
  | d :: ds, vs => ∃ v ws, vs = v :: ws ∧ Lt.at_ H d v ∧ Lt.ats H ds ws
end
mutual
theorem Lt.at_k {H H' : Hp} (k : Kx H H') : ∀ (d : Lt) (v : V), Lt.at_ H d v → Lt.at_ H' d v
  | .int _, _, h => h
  | .str _, _, h => h
  | .bl _, _, h => h
  | .non, _, h => h
  | .tup l, v, h => by
    obtain ⟨a, vs, e, b, c⟩ := h
    exact ⟨a, vs, e, k.tup b, Lt.ats_k k l vs c⟩
  | .lst l, v, h => by
    obtain ⟨a, vs, e, b, c⟩ := h
    exact ⟨a, vs, e, k.lst b, Lt.ats_k k l vs c⟩
theorem Lt.ats_k {H H' : Hp} (k : Kx H H') : ∀ (ds : List Lt) (vs : List V), Lt.ats H ds vs → Lt.ats H' ds vs
  | [], _, h => h
  | d :: ds, vs, h => by
    obtain ⟨v, ws, e, a, b⟩ := h
    exact ⟨v, ws, e, Lt.at_k k d v a, Lt.ats_k k ds ws b⟩
end
theorem Lt.ats_len {H : Hp} : ∀ {ds : List Lt} {vs : List V}, Lt.ats H ds vs → vs.length = ds.length
  | [], _, h => by rw [show _ = [] from h] <;> rfl
  | d :: ds, vs, h => by
    obtain ⟨v, ws, rfl, a, b⟩ := h
    rw [List.length_cons, List.length_cons, Lt.ats_len b]
theorem Lt.ats_app {H : Hp} : ∀ {ds es : List Lt} {vs ws : List V}, Lt.ats H ds vs → Lt.ats H es ws → Lt.ats H (ds ++ es) (vs ++ ws)
  | [], _, _, _, h, g => by
    rw [show _ = [] from h]
    exact g
  | d :: ds, es, vs, ws, h, g => by
    obtain ⟨v, us, rfl, a, b⟩ := h
    exact ⟨v, us ++ ws, rfl, a, Lt.ats_app b g⟩
def tLit (d : Lt) : TE := fun _ H Q => ∀ (v : V) (H' : Hp), Kx H H' → Lt.at_ H' d v → Q v H'
def tLits (ds : List Lt) : TA := fun _ H Q => ∀ (vs : List V) (H' : Hp), Kx H H' → Lt.ats H' ds vs → Q vs H'
section
variable {X : Cx} {e : Expr} {es : List Expr} {t t' : TE} {ta ta' : TA} {pos : Pos}
theorem PE.weak (h : PE X e t) (k : ∀ σ H Q, t' σ H Q → t σ H Q) : PE X e t' := ⟨fun pins s σ H Q I q => h.run pins s σ H Q I (k σ H Q q)⟩
theorem PA.weak (h : PA X es ta) (k : ∀ σ H Q, ta' σ H Q → ta σ H Q) : PA X es ta' := ⟨fun pos pins s σ H Q I q => h.run pos pins s σ H Q I (k σ H Q q)⟩
theorem pl_int {i j} : PE X (.Constant (.int i) j pos) (tLit (.int i)) := PE.weak pe_int fun _ H Q q => q _ H (Kx.refl H) rfl
theorem pl_str {x j} : PE X (.Constant (.str x) j pos) (tLit (.str x)) := PE.weak pe_str fun _ H Q q => q _ H (Kx.refl H) rfl
theorem pl_bl {b j} : PE X (.Constant (.bool b) j pos) (tLit (.bl b)) := PE.weak pe_bl fun _ H Q q => q _ H (Kx.refl H) rfl
theorem pl_non {j} : PE X (.Constant .none j pos) (tLit .non) := PE.weak pe_non fun _ H Q q => q _ H (Kx.refl H) rfl
theorem pl_neg {i : Int} (h : PE X e (tLit (.int i))) : PE X (.UnaryOp .USub e pos) (tLit (.int (-i))) := PE.weak (pe_un un_neg h) fun _ H Q q v H' k a => ⟨i, a, q _ H' k rfl⟩
theorem pls_nil : PA X [] (tLits []) := PA.weak pa_nil fun _ H Q q => q _ H (Kx.refl H) rfl
theorem pls_cons {d : Lt} {ds : List Lt} (he : PE X e (tLit d)) (h : PA X es (tLits ds)) (hs : starEach (e :: es) X.env = (false, eval e X.env) :: starEach es X.env := by rfl) : PA X (e :: es) (tLits (d :: ds)) :=
  PA.weak (pa_cons he h hs) fun _ H Q q v H1 k1 a vs H2 k2 b => q _ H2 (k1.trans k2) ⟨v, vs, rfl, Lt.at_k k2 d v a, b⟩
theorem pl_tup {ds : List Lt} {x1} (h : PA X es (tLits ds)) (n : ds.length ≤ 1000 := by decide) : PE X (.Tuple es x1 pos) (tLit (.tup ds)) :=
  PE.weak (pe_tup h) fun _ H Q q vs H1 k1 b => ⟨by rw [Lt.ats_len b]; exact small80 (by omega), fun p np => q _ _ (k1.trans (Kx.new np)) ⟨p, vs, rfl, upd_same, Lt.ats_k (Kx.new np) ds vs b⟩⟩
theorem pl_lst {ds : List Lt} (h : PA X es (tLits ds)) (n : ds.length ≤ 1000 := by decide) : PE X (.List es pos) (tLit (.lst ds)) :=
  PE.weak (pe_lst h) fun _ H Q q vs H1 k1 b => ⟨by rw [Lt.ats_len b]; exact small80 (by omega), fun p np => q _ _ (k1.trans (Kx.new np)) ⟨p, vs, rfl, upd_same, Lt.ats_k (Kx.new np) ds vs b⟩⟩
end
/-! what they are -/
def Wd.lt (w : Wd) : Lt := .tup [.int w.c, .int w.h, .int w.p, .int w.o, .str w.a]
def wordsLt (ws : List Wd) : Lt := .lst (ws.map Wd.lt)
def isLt (ns : List Int) : List Lt := ns.map Lt.int
def Mt.lt (m : Mt) : Lt := .tup [.tup (isLt m.ps), .int m.e, .tup (isLt m.nds)]
theorem ints_at {H : Hp} : ∀ {ns : List Int} {vs : List V}, Lt.ats H (isLt ns) vs → vs = ns.map V.int
  | [], _, h => h
  | n :: ns, vs, h => by
    obtain ⟨v, ws, rfl, a, b⟩ := h
    rw [show v = .int n from a, ints_at b] <;> rfl
theorem intsL {H : Hp} {ns : List Int} {v : V} (h : Lt.at_ H (.lst (isLt ns)) v) : ∃ a, v = .ref a ∧ H a = some (.lst (ns.map V.int)) := by
  obtain ⟨a, vs, e, b, c⟩ := h
  rw [ints_at c] at b
  exact ⟨a, e, b⟩
theorem intsT {H : Hp} {ns : List Int} {v : V} (h : Lt.at_ H (.tup (isLt ns)) v) : ∃ a, v = .ref a ∧ H a = some (.tup (ns.map V.int)) := by
  obtain ⟨a, vs, e, b, c⟩ := h
  rw [ints_at c] at b
  exact ⟨a, e, b⟩
theorem wd_at {H : Hp} {w : Wd} {v : V} (h : Lt.at_ H w.lt v) : ∃ a, v = .ref a ∧ H a = some (.tup w.V) := by
  obtain ⟨a, vs, e, b, v1, w1, rfl, e1, v2, w2, rfl, e2, v3, w3, rfl, e3, v4, w4, rfl, e4, v5, w5, rfl, e5, e6⟩ := h
  rw [show v1 = .int w.c from e1, show v2 = .int w.h from e2, show v3 = .int w.p from e3, show v4 = .int w.o from e4, show v5 = .str w.a from e5, show w5 = [] from e6] at b
  exact ⟨a, e, b⟩
theorem wds_at {H : Hp} : ∀ {ws : List Wd} {vs : List V}, Lt.ats H (ws.map Wd.lt) vs → ∃ ts : List Addr, vs = ts.map V.ref ∧ TAt H ts ws
  | [], _, h => ⟨[], h, .nil⟩
  | w :: ws, vs, h => by
    obtain ⟨v, us, rfl, a, b⟩ := h
    obtain ⟨t, rfl, ht⟩ := wd_at a
    obtain ⟨ts, rfl, hts⟩ := wds_at b
    exact ⟨t :: ts, rfl, .cons ht hts⟩
theorem words_lt {H : Hp} {ws : List Wd} {v : V} (h : Lt.at_ H (wordsLt ws) v) : ∃ (l : Addr) (ts : List Addr), v = .ref l ∧ H l = some (.lst (ts.map V.ref)) ∧ TAt H ts ws := by
  obtain ⟨a, vs, e, b, c⟩ := h
  obtain ⟨ts, rfl, ht⟩ := wds_at c
  exact ⟨a, ts, e, b, ht⟩
theorem mt_at {K : PySem.W.Frag} {H : Hp} {m : Mt} {v : V} (h : Lt.at_ H m.lt v) : ∃ a, v = .ref a ∧ MAt K H a m := by
  obtain ⟨a, vs, e, b, v1, w1, rfl, e1, v2, w2, rfl, e2, v3, w3, rfl, e3, e6⟩ := h
  obtain ⟨p, rfl, hp⟩ := intsT e1
  obtain ⟨n, rfl, hn⟩ := intsT e3
  rw [show v2 = .int m.e from e2, show w3 = [] from e6] at b
  exact ⟨a, e, p, n, st_of b, st_of hp, st_of hn⟩
end CH
end

section
set_option Elab.async false
set_option linter.all false
set_option maxRecDepth 100000
set_option maxHeartbeats 4000000
namespace CH
open PySem PySem.Spec PyProof.Rows L2
/-- [list(x) for x in xs], xs lists of numbers: new ones -/
theorem lc_copies {K K1 : PySem.W.Frag} {a : Addr} {ts : List Addr} {rs : List (List Int)} {i : Nat} {vs : List Nat} {σ : L2.St} {H0 : Hp} {D : Addr} {Qd : Hp → Prop} (eK : K1 = K) (hl : SqL K H0 a (ts.map V.ref)) (hrs : RowsIn K H0 ts rs) (nD : H0 D = none) (h4 : rs.length ≤ 4000)
    (hw : ∀ x, wipe ((wipe σ vs).set i (some x)) vs = wipe σ vs) (hg : ∀ x : V, ((wipe σ vs).set i (some x))[i]? = some (some x))
    (hd : ∀ (H3 : Hp) (us : List Addr), Kx H0 H3 → H3 D = some (.lst (us.map V.ref)) → RowsAt H3 us rs → us.Nodup → (∀ u ∈ us, H0 u = none ∧ u ≠ D) → Qd H3) :
    ∃ W : Nat → Nat → Hp → Prop, (∃ m, W 0 m (upd H0 D (.lst []))) ∧ ∀ i1 m H, W i1 m H →
      ((Itl K a).stop i1 H ∧ Qd H) ∨ ((Itl K a).go i1 H ∧ ∃ Nx : Hp → Prop, (∀ H', Nx H' → ∃ m', m' < m ∧ W (i1 + 1) m' H') ∧ ∀ x H', (Itl K a).yld i1 H x H' → gName i x (wipe σ vs) H' fun σ2 H2 => wipe σ2 vs = wipe σ vs ∧ tYes σ2 H2 fun b H3 =>
        if b = true then tCB (rListOf K1) (tCons (tVar i) tNil) σ2 H3 fun y H4 => ∃ acc, H4 D = some (.lst acc) ∧ acc.length < sizeLine ∧ Nx (upd H4 D (.lst (acc ++ [y]))) else Nx H3) := by
  subst eK
  have len := paired_len hrs
  refine lc_list (K := K1) (a := a) (xs := ts.map V.ref) (fun j H2 => Kx H0 H2 ∧ ∃ us : List Addr, H2 D = some (.lst (us.map V.ref)) ∧ RowsAt H2 us (rs.take j) ∧ us.Nodup ∧ (∀ u ∈ us, H0 u = none ∧ u ≠ D) ∧ us.length = j)
      ⟨Kx.new nD, [], upd_same, .nil, List.nodup_nil, fun u h => absurd h (by simp), rfl⟩ (fun i H2 _ h => h.1.l hl) ?_ ?_
  · rintro j y H2 hj ⟨k2, us, hd2, hus, nus, fus, lus⟩
    obtain ⟨t, ht, rfl⟩ : ∃ t, ts[j]? = some t ∧ V.ref t = y := by
      rw [List.getElem?_map] at hj
      exact Option.map_eq_some_iff.mp hj
    obtain ⟨r, hr, hsq, hle⟩ := paired_at hrs ht
    have hjl : j < ts.length := (List.getElem?_eq_some_iff.mp ht).1
    refine ⟨hw _, yesT ?_⟩
    refine ⟨_, hg _, t, _, rfl, .inl (k2.l hsq), fun u nu => ?_⟩
    have k3 : Kx H2 (upd H2 u (.lst (r.map V.int))) := Kx.new nu
    have nuD : u ≠ D := fun z => by rw [z, hd2] at nu; cases nu
    refine ⟨_, k3.lst hd2, by rw [List.length_map]; exact lt80 (by omega), (k2.trans k3).mut nD, us ++ [u], by rw [upd_same, List.map_append] <;> rfl, ?_, ?_, fun y hy => ?_, by rw [List.length_append, lus] <;> rfl⟩
    · rw [List.take_add_one, hr]
      refine RowsAt.up (paired_snoc (hus.k k3) ⟨upd_same, hle⟩) fun y hy => ?_
      rcases List.mem_append.mp hy with hy | hy
      · exact (fus y hy).2
      · rw [List.mem_singleton.mp hy]
        exact nuD
    · refine List.nodup_append.mpr ⟨nus, List.nodup_cons.mpr ⟨by simp, List.nodup_nil⟩, fun x hx y hy e => ?_⟩
      rw [List.mem_singleton.mp hy] at e
      subst e
      obtain ⟨i, hi⟩ := List.mem_iff_getElem?.mp hx
      obtain ⟨r', _, h1, _⟩ := paired_at hus hi
      rw [nu] at h1
      cases h1
    · rcases List.mem_append.mp hy with hy | hy
      · exact fus y hy
      · rw [List.mem_singleton.mp hy]
        exact ⟨k2.f _ nu, nuD⟩
  · rintro H2 ⟨k2, us, hd2, hus, nus, fus, lus⟩
    rw [List.length_map, len, List.take_length] at hus
    exact hd H2 us k2 hd2 hus nus fus
end CH
end

section
set_option Elab.async false
set_option linter.all false
set_option maxRecDepth 100000
set_option maxHeartbeats 4000000
namespace CH
open PySem PySem.Spec PyProof.Rows L2
theorem sql_up {K : PySem.W.Frag} {H : Hp} {a p : Addr} {xs : List V} {o : HO} (h : SqL K H a xs) (n : a ≠ p) : SqL K (upd H p o) a xs := by
  rcases h with h | h
  · refine .inl ?_
    rcases h with h | ⟨ob, h⟩
    · exact .inl (by rw [upd_ne n]; exact h)
    · exact .inr ⟨ob, by rw [upd_ne n]; exact h⟩
  · exact .inr h
/-- a short list of numbers, that is not z -/
def IsOk (K : PySem.W.Frag) (H : Hp) (z q : Addr) : Prop := ∃ ns : List Int, SqL K H q (ns.map V.int) ∧ ns.length ≤ 900 ∧ q ≠ z
theorem IsOk.k {K : PySem.W.Frag} {H H' : Hp} {z q : Addr} (k : Kx H H') (h : IsOk K H z q) : IsOk K H' z q := by
  obtain ⟨ns, a, b, c⟩ := h
  exact ⟨ns, k.l a, b, c⟩
theorem IsOk.up {K : PySem.W.Frag} {H : Hp} {z q : Addr} {o : HO} (h : IsOk K H z q) : IsOk K (upd H z o) z q := by
  obtain ⟨ns, a, b, c⟩ := h
  exact ⟨ns, sql_up a c, b, c⟩
/-- a list of rows, few and short; z is none of them -/
def RsX (K : PySem.W.Frag) (H : Hp) (z q : Addr) : Prop := ∃ (ts : List Addr) (rs : List (List Int)), SqL K H q (ts.map V.ref) ∧ RowsIn K H ts rs ∧ rs.length ≤ 100 ∧ (∀ x ∈ rs, x.length ≤ 900) ∧ q ≠ z ∧ ∀ t ∈ ts, t ≠ z
theorem RsX.k {K : PySem.W.Frag} {H H' : Hp} {z q : Addr} (k : Kx H H') (h : RsX K H z q) : RsX K H' z q := by
  obtain ⟨ts, rs, a, b, c, d, e, f⟩ := h
  exact ⟨ts, rs, k.l a, b.k k, c, d, e, f⟩
theorem rowsIn_up {K : PySem.W.Frag} {H : Hp} {z : Addr} {o : HO} {ts : List Addr} {rs : List (List Int)} (h : RowsIn K H ts rs) (n : ∀ t ∈ ts, t ≠ z) : RowsIn K (upd H z o) ts rs := by
  induction h with
  | nil => exact .nil
  | @cons t r ts rs a b ih => exact .cons ⟨sql_up a.1 (n t List.mem_cons_self), a.2⟩ (ih fun t ht => n t (List.mem_cons_of_mem _ ht))
theorem RsX.up {K : PySem.W.Frag} {H : Hp} {z q : Addr} {o : HO} (h : RsX K H z q) : RsX K (upd H z o) z q := by
  obtain ⟨ts, rs, a, b, c, d, e, f⟩ := h
  exact ⟨ts, rs, sql_up a e, rowsIn_up b f, c, d, e, f⟩
/-- rows[:spot] + X + rows[spot + 1:], X a list of one row -/
theorem put_row {K K1 : PySem.W.Frag} {iR iS : Nat} {σ : L2.St} {H : Hp} {Q : VK} {X : TE} {R : Addr} {us : List Addr} {rs : List (List Int)} {sp : Nat} (e : K1 = K) (h1 : σ[iR]? = some (some (.ref R))) (h2 : σ[iS]? = some (some (.int (sp : Int))))
    (hR : H R = some (.lst (us.map V.ref))) (hus : RowsAt H us rs) (l50 : rs.length ≤ 50) (l8 : ∀ x ∈ rs, x.length ≤ 8) {z : Addr} {oz : HO} (hz : H z = some oz) (nz : ∀ t ∈ us, t ≠ z)
    (hX : ∀ H', Kx H H' → ∀ Q' : VK, (∀ (H1 : Hp) (xl q : Addr), Kx H' H1 → H1 xl = some (.lst [.ref q]) → IsOk K H1 z q → Q' (.ref xl) H1) → X σ H' Q') (q : ∀ (H' : Hp) (p : Addr), Kx H H' → H p = none → RsX K H' z p → Q (.ref p) H') :
    tOp rCat (tOp rCat (tSl (rSlL K1) (tVar iR) tNoPart (tPart (tVar iS))) X) (tSl (rSlL K1) (tVar iR) (tPart (tOp (rI0 fun i j => V.int (i + j)) (tVar iS) (tC (.int 1)))) tNoPart) σ H Q := by
  subst e
  have len := paired_len hus
  refine ⟨_, h1, _, h2, _, rfl, R, _, rfl, sq_of hR, fun p1 n1 => ?_⟩
  rw [cutV_take, ← List.map_take]
  have k1 : Kx H (upd H p1 (.lst ((us.take sp).map V.ref))) := Kx.new n1
  have hp1 : (upd H p1 (.lst ((us.take sp).map V.ref))) p1 = some (.lst ((us.take sp).map V.ref)) := upd_same
  generalize upd H p1 (.lst ((us.take sp).map V.ref)) = H1 at k1 hp1 ⊢
  refine hX H1 k1 _ fun H2 xl x k2 hxl hx => ?_
  refine ⟨p1, xl, _, _, rfl, rfl, k2.lst hp1, hxl, by rw [List.length_map, List.length_take]; show _ + 1 ≤ sizeLine; exact small80 (by omega), fun p3 n3 => ?_⟩
  rw [show (us.take sp).map V.ref ++ [V.ref x] = (us.take sp ++ [x]).map V.ref by rw [List.map_append] <;> rfl]
  have k3 : Kx H2 (upd H2 p3 (.lst ((us.take sp ++ [x]).map V.ref))) := Kx.new n3
  have hp3 : (upd H2 p3 (.lst ((us.take sp ++ [x]).map V.ref))) p3 = some (.lst ((us.take sp ++ [x]).map V.ref)) := upd_same
  generalize upd H2 p3 (.lst ((us.take sp ++ [x]).map V.ref)) = H3 at k3 hp3 ⊢
  have k03 := (k1.trans k2).trans k3
  refine ⟨_, h1, _, h2, _, _, rfl, rfl, _, rfl, R, _, rfl, sq_of (k03.lst hR), fun p4 n4 => ?_⟩
  rw [show ((sp : Int) + 1) = ((sp + 1 : Nat) : Int) from rfl, cutV_drop, ← List.map_drop]
  have k4 : Kx H3 (upd H3 p4 (.lst ((us.drop (sp + 1)).map V.ref))) := Kx.new n4
  have hp4 : (upd H3 p4 (.lst ((us.drop (sp + 1)).map V.ref))) p4 = some (.lst ((us.drop (sp + 1)).map V.ref)) := upd_same
  generalize upd H3 p4 (.lst ((us.drop (sp + 1)).map V.ref)) = H4 at k4 hp4 ⊢
  refine ⟨p3, p4, _, _, rfl, rfl, k4.lst hp3, hp4, by rw [List.length_map, List.length_map, List.length_append, List.length_take, List.length_drop]; show _ + 1 + _ ≤ sizeLine; exact small80 (by omega), fun p5 n5 => ?_⟩
  rw [← List.map_append]
  have k5 : Kx H4 (upd H4 p5 (.lst ((us.take sp ++ [x] ++ us.drop (sp + 1)).map V.ref))) := Kx.new n5
  have k05 := (k03.trans k4).trans k5
  obtain ⟨ns, hns, l900, nxz⟩ := hx
  have npz : p5 ≠ z := fun e => by rw [e] at n5; rw [(k03.trans k4).f _ n5] at hz; cases hz
  refine q _ p5 k05 ((k03.trans k4).f _ n5) ⟨_, rs.take sp ++ [ns] ++ rs.drop (sp + 1), sq_of upd_same, ?_, ?_, fun y hy => ?_, npz, fun t ht => ?_⟩
  · have hin := (RowsAt.in_ (K := K1) hus).k k05
    exact ((hin.take sp).app (.cons ⟨((k3.trans k4).trans k5).l hns, by omega⟩ .nil)).app (hin.drop (sp + 1))
  · rw [List.length_append, List.length_append, List.length_take, List.length_drop]
    show _ + 1 + _ ≤ 100
    omega
  · rcases List.mem_append.mp hy with hy | hy
    · rcases List.mem_append.mp hy with hy | hy
      · have := l8 y (List.mem_of_mem_take hy)
        omega
      · rw [List.mem_singleton.mp hy]
        exact l900
    · have := l8 y (List.mem_of_mem_drop hy)
      omega
  · rcases List.mem_append.mp ht with ht | ht
    · rcases List.mem_append.mp ht with ht | ht
      · exact nz t (List.mem_of_mem_take ht)
      · rw [List.mem_singleton.mp ht]
        exact nxz
    · exact nz t (List.mem_of_mem_drop ht)
end CH
end

section
set_option Elab.async false
set_option linter.all false
set_option maxRecDepth 100000
set_option maxHeartbeats 4000000
/-! min(xs) of tuples of numbers; xs[i] op= e -/
namespace CH
open PySem PySem.Spec PyProof.Rows L2
theorem headLt {y a : Int} {ys as : List Int} : (PySem.W.listLt (y :: ys) (a :: as) = true → y ≤ a) ∧ (PySem.W.listLt (y :: ys) (a :: as) = false → a ≤ y) := by
  have e : PySem.W.listLt (y :: ys) (a :: as) = if y = a then PySem.W.listLt ys as else decide (y < a) := rfl
  rw [e]
  by_cases h : y = a
  · subst h
    exact ⟨fun _ => Int.le_refl _, fun _ => Int.le_refl _⟩
  · rw [if_neg h]
    exact ⟨fun z => by have := of_decide_eq_true z; omega, fun z => by have := of_decide_eq_false z; omega⟩
/-- a row that is not empty, and its first number -/
def hd0 (r : List Int) : Int := r.headD 0
theorem minOf_head : ∀ (xs : List (PySem.W.Tup Int)) (x : PySem.W.Tup Int), (∀ y ∈ x :: xs, y.items ≠ []) → (PySem.W.minOf x xs) ∈ x :: xs ∧ ∀ y ∈ x :: xs, hd0 (PySem.W.minOf x xs).items ≤ hd0 y.items
  | [], x, _ => ⟨List.mem_cons_self, fun y hy => by rw [List.mem_singleton.mp hy]; exact Int.le_refl _⟩
  | z :: zs, x, hn => by
    have e : PySem.W.minOf x (z :: zs) = PySem.W.minOf (if PySem.W.DatumOrd.lt z x = true then z else x) zs := rfl
    rw [e]
    have nx := hn x List.mem_cons_self
    have nz := hn z (List.mem_cons_of_mem _ List.mem_cons_self)
    have key : ∀ b : Bool, PySem.W.DatumOrd.lt z x = b → (b = true → hd0 z.items ≤ hd0 x.items) ∧ (b = false → hd0 x.items ≤ hd0 z.items) := fun b hb => by
      have hb : PySem.W.listLt z.items x.items = b := hb
      cases ez : z.items with
      | nil => exact absurd ez nz
      | cons a as =>
        cases ex : x.items with
        | nil => exact absurd ex nx
        | cons c cs =>
          rw [ez, ex] at hb
          exact ⟨fun t => headLt.1 (hb.trans t), fun t => headLt.2 (hb.trans t)⟩
    by_cases c : PySem.W.DatumOrd.lt z x = true
    · rw [if_pos c]
      obtain ⟨m, le⟩ := minOf_head zs z fun y hy => hn y (List.mem_cons_of_mem _ hy)
      refine ⟨List.mem_cons_of_mem _ m, fun y hy => ?_⟩
      rcases List.mem_cons.mp hy with rfl | hy
      · exact Int.le_trans (le z List.mem_cons_self) ((key _ c).1 rfl)
      · exact le y hy
    · rw [if_neg c]
      have cf := Bool.eq_false_iff.mpr c
      obtain ⟨m, le⟩ := minOf_head zs x fun y hy => by
        rcases List.mem_cons.mp hy with rfl | hy
        · exact nx
        · exact hn y (List.mem_cons_of_mem _ (List.mem_cons_of_mem _ hy))
      refine ⟨?_, fun y hy => ?_⟩
      · rcases List.mem_cons.mp m with h | h
        · rw [h]
          exact List.mem_cons_self
        · exact List.mem_cons_of_mem _ (List.mem_cons_of_mem _ h)
      · rcases List.mem_cons.mp hy with rfl | hy
        · exact le y List.mem_cons_self
        rcases List.mem_cons.mp hy with rfl | hy
        · exact Int.le_trans (le x List.mem_cons_self) ((key _ cf).2 rfl)
        · exact le y (List.mem_cons_of_mem _ hy)
/-- min(xs), xs a list of tuples of numbers: one of them, none has a less first number -/
def rMinT (K : PySem.W.Frag) : List V → Hp → VK → Prop := fun vs H Q => ∃ (a : Addr) (ts : List Addr) (rs : List (List Int)), vs = [V.ref a] ∧ SqL K H a (ts.map V.ref) ∧ Paired (fun t (r : List Int) => SqT K H t (r.map V.int)) ts rs ∧ ts ≠ [] ∧ (∀ r ∈ rs, r ≠ []) ∧
  ∀ (i : Nat) (t : Addr) (r : List Int), ts[i]? = some t → rs[i]? = some r → (∀ r' ∈ rs, hd0 r ≤ hd0 r') → Q (.ref t) H
section
variable {X : Cx}
theorem tups_dp {K : PySem.W.Frag} {H : Hp} {ts : List Addr} {rs : List (List Int)} (h : Paired (fun t (r : List Int) => SqT K H t (r.map V.int)) ts rs) : DpAll K H (ts.map V.ref) ((rs.map PySem.W.Tup.mk).map PySem.W.Datum.toD) := by
  induction h with
  | nil => exact .nil
  | @cons t r ts rs a b ih => exact .cons (.tup a (ints_dp r)) ih
theorem cr_minT (hu : X.A.units + 64 < cLine) (hc : X.calm = true := by rfl) : CallR X (.builtin "min") (rMinT X.K) := by
  intro pins s σ H vs us Q I r h
  obtain ⟨a, ts, rs, rfl, hs, hp, hne, hrn, q⟩ := h
  obtain ⟨its, rv, hl, _⟩ := I.list hs
  rw [Vals.ref1 r]
  obtain ⟨as, hra⟩ := Dp.readsAll I _ _ _ (tups_dp hp) rv
  have len := paired_len hp
  have evs := refs_vals rv
  cases rs with
  | nil =>
    rw [List.length_nil] at len
    exact absurd (List.eq_nil_of_length_eq_zero len) hne
  | cons x xs =>
    refine PySem.W.min_list_datum (α := PySem.W.Tup Int) (x := ⟨x⟩) (xs := xs.map PySem.W.Tup.mk) (I.ok.hd hc) hl.isList ⟨as, by simpa using hra⟩ (by show X.A.units + 1 + 1 < cLine; omega) fun i v h' tk hv hh hk => ?_
    have hv2 : its[i]? = some v := by simpa using hv
    rw [evs, List.getElem?_map] at hv2
    obtain ⟨t, ht, rfl⟩ := Option.map_eq_some_iff.mp hv2
    obtain ⟨rr, hrr, hsq⟩ := paired_at hp ht
    obtain ⟨bs, hb⟩ := hh
    obtain ⟨cs, hcs⟩ := Dp.reads I (PySem.W.Datum.toD (PySem.W.Tup.mk rr)) (.ref t) (.ref t) (.tup hsq (ints_dp rr)) rfl
    have e1 : PySem.W.Datum.toD (PySem.W.minOf (PySem.W.Tup.mk x) (xs.map PySem.W.Tup.mk)) = PySem.W.Datum.toD (PySem.W.Tup.mk rr) := (reads_det (fun b o e _ => hk b o e) hcs hb).1
    have e2 : PySem.W.minOf (PySem.W.Tup.mk x) (xs.map PySem.W.Tup.mk) = PySem.W.Tup.mk rr := by
      have z := PySem.W.Datum.eqv (PySem.W.minOf (PySem.W.Tup.mk x) (xs.map PySem.W.Tup.mk)) (PySem.W.Tup.mk rr)
      rw [e1, PySem.W.Datum.eqv, decide_eq_true rfl] at z
      exact of_decide_eq_true z.symm
    obtain ⟨_, mn⟩ := minOf_head (xs.map PySem.W.Tup.mk) (PySem.W.Tup.mk x) fun y hy => by
      rw [← List.map_cons (f := PySem.W.Tup.mk)] at hy
      obtain ⟨r', hr', rfl⟩ := List.mem_map.mp hy
      exact hrn r' hr'
    rw [e2] at mn
    refine ⟨.ref t, H, I.kept hk, rfl, q i t rr ht hrr fun r' hr' => mn (PySem.W.Tup.mk r') ?_⟩
    rw [← List.map_cons (f := PySem.W.Tup.mk)]
    exact List.mem_map.mpr ⟨r', hr', rfl⟩
end
end CH
namespace CH
open PySem PySem.Spec PyProof.Rows L2
/-- xs[i], by values, i not negative -/
def rGetL (K : PySem.W.Frag) : V → V → Hp → VK → Prop := fun x y H Q => ∃ (p : Addr) (xs : List V) (j : Nat) (v : V), x = .ref p ∧ y = .int (j : Int) ∧ SqL K H p xs ∧ xs[j]? = some v ∧ Q v H
theorem pget_list {X : Cx} : PGet X (rGetL X.K) := by
  intro pins s σ H o i ov iv Q I ro ri h
  obtain ⟨p, xs, j, z, rfl, rfl, hq, he, q⟩ := h
  cases ro
  obtain ⟨t, rfl⟩ := ri
  obtain ⟨its, r, pl, hz⟩ := I.list hq
  obtain ⟨w, ew, rw'⟩ := r.get he
  have hl := r.length
  have hn := line63
  have hj : j < xs.length := (List.getElem?_eq_some_iff.mp he).1
  exact wpAny_getItem_list pl.isList (by omega) (by omega) (by simpa using ew) ⟨z, H, I, rw', q⟩
/-- a.f[i] op= e, a.f a list -/
theorem ps_augL {X : Cx} {o i e : Expr} {to ti te : TE} {tip : TIp} {op : Operator} {tpos pos : Pos} (ho : PE X o to) (hi : PE X i ti) (he : PE X e te) (hp : PIp X op tip)
    (ha : ∀ ov iv new, augStore i ov iv new = (do holding [new, ov, iv] (setItem ov iv new); release [new, ov, iv] []; pure .next) := by intros; rfl) : PS X (.AugAssign (.Subscript o i tpos) op e pos) (tAugS to ti te (rGetL X.K) tip rSetL) :=
  ps_augS ho hi pget_list he hp set_list ha
end CH
end

section
set_option Elab.async false
set_option linter.all false
set_option maxRecDepth 100000
set_option maxHeartbeats 4000000
/-! dicts locked, several at once -/
namespace CH
open PySem PySem.Spec PyProof.Rows L2
def lockN : Nat → TE → TE
  | 0, t => t
  | n + 1, t => tLockE (lockN n t)
theorem pe_lockN' {X : Cx} {e : Expr} {t : TE} (h : PE X e t) : ∀ n : Nat, PE X e (lockN n t)
  | 0 => h
  | n + 1 => pe_lock (pe_lockN' h n)
/-- as many locks as are wanted -/
theorem pe_lockN {X : Cx} {e : Expr} {t : TE} (h : PE X e t) : PE X e (fun σ H Q => ∃ n, lockN n t σ H Q) := ⟨fun pins s σ H Q I ⟨n, q⟩ => (pe_lockN' h n).run pins s σ H Q I q⟩
/-- the dicts of ds are locked in G, all else stands as in H -/
structure Lk (ds : List Addr) (H G : Hp) : Prop where
  out : ∀ b, b ∉ ds → G b = H b
  in_ : ∀ d ∈ ds, ∃ od u, H d = some u ∧ Mut (some u) ∧ G d = some (.frz od u)
/-- behind the locks: what stood stands, the rest is as in H' -/
structure Ul (ds : List Addr) (H H' U : Hp) : Prop where
  out : ∀ b, b ∉ ds → U b = H' b
  in_ : ∀ d ∈ ds, U d = H d
theorem lock_all {t : TE} {σ : L2.St} : ∀ (ds : List Addr) (H : Hp) (Q : VK), ds.Nodup → (∀ d ∈ ds, ∃ u, H d = some u ∧ Mut (some u)) →
    (∀ (G : Hp) (Q' : VK), Lk ds H G → (∀ v H', (∀ d ∈ ds, H' d = G d) → (∀ U, Ul ds H H' U → Q v U) → Q' v H') → t σ G Q') → lockN ds.length t σ H Q
  | [], H, Q, _, _, h => h H Q ⟨fun b _ => rfl, fun d hd => absurd hd (by simp)⟩ fun v H' _ q => q H' ⟨fun b _ => rfl, fun d hd => absurd hd (by simp)⟩
  | d :: ds, H, Q, nd, hd, h => by
    obtain ⟨n1, n2⟩ := List.nodup_cons.mp nd
    obtain ⟨u, hu, mu⟩ := hd d List.mem_cons_self
    have ne : ∀ e ∈ ds, e ≠ d := fun e he z => n1 (by rw [← z]; exact he)
    refine ⟨d, u, hu, mu, fun od => ?_⟩
    refine lock_all ds _ _ n2 (fun e he => ?_) (fun G Q' lk hq' => ?_)
    · obtain ⟨u', h1, h2⟩ := hd e (List.mem_cons_of_mem _ he)
      exact ⟨u', by rw [upd_ne (ne e he)]; exact h1, h2⟩
    · have hGd : G d = some (.frz od u) := by rw [lk.out d n1, upd_same]
      refine h G Q' ⟨fun b hb => ?_, fun e he => ?_⟩ fun v H' a q => hq' v H' (fun e he => a e (List.mem_cons_of_mem _ he)) fun U ul => ⟨?_, ?_⟩
      · have hb1 : b ≠ d := fun z => hb (by rw [z]; exact List.mem_cons_self)
        rw [lk.out b fun z => hb (List.mem_cons_of_mem _ z), upd_ne hb1]
      · rcases List.mem_cons.mp he with rfl | he'
        · exact ⟨od, u, hu, mu, hGd⟩
        · obtain ⟨od', u', h1, h2, h3⟩ := lk.in_ e he'
          rw [upd_ne (ne e he')] at h1
          exact ⟨od', u', h1, h2, h3⟩
      · rw [ul.out d n1, a d List.mem_cons_self, hGd]
      · refine q _ ⟨fun b hb => ?_, fun e he => ?_⟩
        · have hb1 : b ≠ d := fun z => hb (by rw [z]; exact List.mem_cons_self)
          rw [upd_ne hb1]
          exact ul.out b fun z => hb (List.mem_cons_of_mem _ z)
        · by_cases z : e = d
          · rw [z, upd_same, hu]
          · rw [upd_ne z]
            have he' : e ∈ ds := by
              rcases List.mem_cons.mp he with rfl | he'
              · exact absurd rfl z
              · exact he'
            rw [ul.in_ e he', upd_ne z]
theorem Ul.kx {ds : List Addr} {H G H' U : Hp} (lk : Lk ds H G) (k : Kx G H') (ul : Ul ds H H' U) : Kx H U := by
  refine ⟨fun b u hb n => ?_, fun P t => ?_, fun b hb => ?_⟩
  · by_cases z : b ∈ ds
    · rw [ul.in_ b z]
      exact hb
    · rw [ul.out b z]
      refine k.o b u ?_ n
      rw [lk.out b z]
      exact hb
  · have nP : P ∉ ds := fun z => by
      obtain ⟨ps, e, _⟩ := t
      obtain ⟨od, u, h1, h2, _⟩ := lk.in_ P z
      rw [e] at h1
      cases h1
      exact h2
    have tG : GxR.TabG G P := by
      obtain ⟨ps, e, t1⟩ := t
      exact ⟨ps, by rw [lk.out P nP]; exact e, t1⟩
    obtain ⟨qs, e2, t2⟩ := k.g P tG
    exact ⟨qs, by rw [ul.out P nP]; exact e2, t2⟩
  · by_cases z : b ∈ ds
    · rw [ul.in_ b z] at hb
      exact hb
    · rw [ul.out b z] at hb
      have := k.f b hb
      rw [lk.out b z] at this
      exact this
/-- all but these stays -/
structure Ke (S : List Addr) (H H' : Hp) : Prop where
  o : ∀ b u, b ∉ S → H b = some u → (∀ ps, u ≠ .tbl ps) → H' b = some u
  g : ∀ P, P ∉ S → GxR.TabG H P → GxR.TabG H' P
  f : ∀ b, H' b = none → H b = none
theorem Kx.ke {S : List Addr} {H H' : Hp} (k : Kx H H') : Ke S H H' := ⟨fun b u _ h n => k.o b u h n, fun P _ h => k.g P h, k.f⟩
theorem Ke.refl (S : List Addr) (H : Hp) : Ke S H H := (Kx.refl H).ke
theorem Ke.trans {S : List Addr} {H H1 H2 : Hp} (a : Ke S H H1) (b : Ke S H1 H2) : Ke S H H2 := ⟨fun c u n h m => b.o c u n (a.o c u n h m) m, fun P n h => b.g P n (a.g P n h), fun c h => a.f c (b.f c h)⟩
theorem Ke.mut {S : List Addr} {H H' : Hp} {p : Addr} {u : HO} (k : Ke S H H') (h : p ∈ S) : Ke S H (upd H' p u) := by
  have ne : ∀ b, b ∉ S → b ≠ p := fun b hb z => hb (by rw [z]; exact h)
  refine ⟨fun b v n e m => by rw [upd_ne (ne b n)]; exact k.o b v n e m, fun P n t => ?_, fun b e => ?_⟩
  · obtain ⟨qs, e2, t2⟩ := k.g P n t
    exact ⟨qs, by rw [upd_ne (ne P n)]; exact e2, t2⟩
  · by_cases hb : b = p
    · rw [hb, upd_same] at e
      cases e
    · rw [upd_ne hb] at e
      exact k.f b e
/-- a new one is changed -/
theorem Ke.fresh {S : List Addr} {H H' : Hp} {p : Addr} {u : HO} (k : Ke S H H') (h : H p = none) : Ke S H (upd H' p u) := by
  refine ⟨fun b v n e m => ?_, fun P n t => ?_, fun b e => ?_⟩
  · rw [upd_ne (ne_of_none e h)]
    exact k.o b v n e m
  · have hP : P ≠ p := by
      obtain ⟨ps, e, _⟩ := t
      exact ne_of_none e h
    obtain ⟨qs, e2, t2⟩ := k.g P n t
    exact ⟨qs, by rw [upd_ne hP]; exact e2, t2⟩
  · by_cases hb : b = p
    · rw [hb, upd_same] at e
      cases e
    · rw [upd_ne hb] at e
      exact k.f b e
/-- what is spared was not there ahead -/
theorem Ke.kx {S : List Addr} {H0 H H' : Hp} (k0 : Kx H0 H) (k : Ke S H H') (n : ∀ b ∈ S, H0 b = none) : Kx H0 H' := by
  refine ⟨fun b u h m => ?_, fun P t => ?_, fun b h => k0.f b (k.f b h)⟩
  · exact k.o b u (fun z => by rw [n b z] at h; cases h) (k0.o b u h m) m
  · have hP : P ∉ S := fun z => by
      obtain ⟨ps, e, _⟩ := t
      rw [n P z] at e
      cases e
    exact k.g P hP (k0.g P t)
end CH
end

section
set_option Elab.async false
set_option linter.all false
set_option maxRecDepth 100000
set_option maxHeartbeats 4000000
/-! sorted(set(xs)), xs a list of whole numbers -/
namespace CH
open PySem PySem.Spec PyProof.Rows L2
/-- a set with nothing in it -/
abbrev bareSet (w : World) : Obj := { cls := .type "set", dict := none, data := .set #[] 0 (.fresh 0 0 (!w.params.followText "set-order")) }
abbrev Shared.more (s : Shared) (o : Obj) : Shared := { s with heap := s.heap.push o }
section
variable {P : Program} {w : World} {A : Around} {E : Value → Shared → Prop} {s : Shared}
/-- what set(xs) leaves: a set of the members of ns at a, all else as it was -/
def SetsOf (w : World) (s : Shared) (ns : List Int) (s2 : Shared) : Prop := ∃ h' tk c, s2 = { s with heap := h', toks := tk } ∧ SetR w h' s.heap.objs.size (fun j => decide (j ∈ ns)) c ∧ c ≤ ns.length ∧ ∀ b o, s.heap.get? b = some o → h'.get? b = some o
theorem call_setL {l : Addr} {items : Array Value} (ns : List Int) {Q : Value → Shared → Prop} (hh : A.handled = none) (hl : s.heap.IsList l items) (hi : IntsAre items.toList ns) (hb : ns.length + 1 < scanBound)
    (h : ∀ s2, SetsOf w s ns s2 → Q (.ref s.heap.objs.size) s2) : wpAny (model P w) A (call (.type "set") [.ref l]) Q E s := by
  have sz : items.size = ns.length := by
    have := IntsAre.length hi
    rwa [Array.length_toList] at this
  have hlt : l < s.heap.objs.size := by
    obtain ⟨o, ho, _⟩ := hl
    exact Heap.lt_size ho
  obtain ⟨c, tl, hmro⟩ := F.called_set.mro
  have made := F.called_set.made
  have sub_ := F.called_set.sub
  have notT := F.called_set.notType
  have canC := F.called_set.canCreate
  have tc := F.typeCall_set_1 (.ref l)
  refine wpAny_call (codeAny_of_tree ?_)
  show wpAny _ _ (callAny (.type "set") _) _ _ _
  refine wpAny_pure ⟨Code.quiet_builtin _ (by decide +kernel), codeAny_builtin F.entry_type_call ?_⟩
  rw [Around.under_plain (weight_type_call_type "set" [.ref l] []) rfl]
  repeat (any_goals (first | assumption | wp_step))
  refine codeAny_mono (code_set_led1 (.ref l) (E := E) (Q₁ := fun v s1 => v = .ref s.heap.objs.size ∧ s1 = Shared.more s (bareSet w)) ⟨rfl, rfl⟩) fun r s1 hr => ?_
  match r, hr with
  | .error _, hr => exact hr
  | .ok (.ret v), hr =>
    obtain ⟨rfl, rfl⟩ := hr
    have at0 : (s.heap.push (bareSet w)).get? s.heap.objs.size = some (bareSet w) := Heap.get?_push_size _ rfl
    have ty0 : Shared.TypeIs (Shared.more s (bareSet w)) (.ref s.heap.objs.size) "set" := ⟨_, at0, rfl⟩
    have lk := F.called_set.init.lookup
    have bd := F.called_set.init.bind (.ref s.heap.objs.size)
    repeat (any_goals (first | assumption | wp_step))
    refine codeAny_mono (codeAny_call_builtin (R := wants (fun r2 s2 => r2 = .none ∧ SetsOf w s ns s2) E) F.called_set.init.plain F.entry_set_init (check_set_init_1 ty0 ?_)) fun r2 s2 hr2 => ?_
    · have hl1 : (s.heap.push (bareSet w)).IsList l items := hl.push _
      obtain ⟨ol, hol, hcl, nl, hdl⟩ := id hl1
      obtain ⟨ocls, odict, odata, oslots⟩ := ol
      simp only at hcl hdl
      subst hcl
      subst hdl
      have f1 := F.sub_list_set
      have f2 := F.sub_list_frozenset
      have f3 : (Value.type "list" == Value.type "dict") = false := by decide
      unfold Builtin.«set.__init__» noKeywords Builtin.Frozenset.updateFrom
      generalize hPI : pyIter = PI
      wp_walk
      subst hPI
      refine wpAny_pyIter_list hl1 ?_
      refine wpAny_bind (wpAny_runValue ?_)
      have hz : (s.heap.push (bareSet w)).objs.size = s.heap.objs.size + 1 := Heap.size_push ..
      have a1 : l ≠ (s.heap.push (bareSet w)).objs.size := by rw [hz]; exact Nat.ne_of_lt (Nat.lt_succ_of_lt hlt)
      have a2 : s.heap.objs.size ∉ [(s.heap.push (bareSet w)).objs.size, l] := fun z => by
        rw [hz] at z
        rcases List.mem_cons.mp z with z | z
        · exact Nat.ne_of_lt (Nat.lt_succ_self _) z
        · exact Nat.ne_of_gt hlt (List.mem_singleton.mp z)
      refine set_update_ints ((Walks.list (by simp [hh]) _ l a1 items).toS) s.heap.objs.size a2 ns sz hb (fun i v hv => ?val) (items.size - 0) 0 _ (by omega) (Nat.zero_le _) ⟨⟨_, Heap.get?_push_size _ rfl, rfl, rfl⟩, hl1.push _⟩ ?start ?fin
      case val =>
        have hi2 : i < ns.length := by
          rw [← sz]
          exact (Array.getElem?_eq_some_iff.mp hv).1
        obtain ⟨t, e⟩ := IntsAre.int_at hi i v (by rw [Array.getElem?_toList]; exact hv)
        refine ⟨ns[i], t, List.getElem?_eq_getElem hi2, ?_⟩
        rw [e, List.getD_eq_getElem?_getD, List.getElem?_eq_getElem hi2] <;> rfl
      case start =>
        exact ⟨0, Nat.le_refl 0, setR_new_at (Heap.get?_push_of_some _ at0)⟩
      case fin =>
        rintro ⟨h', g2, d', tk', os'⟩ c' mv hc' hS'
        have e1 : g2 = s.gens := mv.gens
        have e2 : d' = s.drawn := mv.drawn
        have e3 : os' = s.os := mv.os
        subst e1
        subst e2
        subst e3
        show wpAny _ _ _ _ _ _
        refine wpAny_pure ?_
        show wpAny _ _ (ret Value.none) _ _ _
        rw [sz] at hc'
        refine wpAny_pure ⟨rfl, h', tk', c', rfl, hS', hc', fun b o e => ?_⟩
        have hb0 := Heap.lt_size e
        refine mv.heap b o (fun z => ?_) (Heap.get?_push_of_some _ (Heap.get?_push_of_some _ e))
        rcases List.mem_cons.mp z with z | z
        · exact Nat.ne_of_lt hb0 z
        · have z := List.mem_singleton.mp z
          rw [hz] at z
          exact Nat.ne_of_lt (Nat.lt_succ_of_lt hb0) z
    · match r2, hr2 with
      | .error _, hr2 => exact hr2
      | .ok (.ret v2), hr2 =>
        obtain ⟨rfl, hs2⟩ := hr2
        repeat (any_goals (first | assumption | wp_step))
        exact h s2 hs2
      | .ok .next, hr2 => exact hr2.elim
      | .ok .brk, hr2 => exact hr2.elim
      | .ok .cont, hr2 => exact hr2.elim
end
end CH
end

section
set_option Elab.async false
set_option linter.all false
set_option maxRecDepth 100000
set_option maxHeartbeats 4000000
namespace CH
open PySem PySem.Spec PyProof.Rows L2
def tSortSet (K : PySem.W.Frag) (ta : TE) : TE := fun σ H Q => ta σ H fun x H1 => ∃ (l : Addr) (ns : List Int), x = .ref l ∧ SqL K H1 l (ns.map V.int) ∧ ns.length < 64 ∧ ∀ (out : List Int) (p : Addr), out.Pairwise (· < ·) → (∀ k : Int, k ∈ out ↔ k ∈ ns) → H1 p = none → Q (.ref p) (upd H1 p (.lst (out.map V.int)))
theorem pe_sortSet {X : Cx} {a : Expr} {ta : TE} {p p2 q pos : Pos} (hg : Gl X "sorted") (hm : X.mg "sorted" = none) (hbt : bootBuiltins "sorted" = some (.builtin "sorted")) (hg2 : Gl X "set") (hm2 : X.mg "set" = none) (ha : PE X a ta) (hc : X.calm = true := by rfl)
    (na : starEach [a] X.env = (false, eval a X.env) :: starEach [] X.env := by rfl) : PE X (.Call (.Name "sorted" p) [.Call (.Name "set" p2) [a] [] q] [] pos) (tSortSet X.K ta) := by
  refine ⟨fun pins s σ H Q I h => ?_⟩
  refine Call_ (ld_blt I hg hm hbt ?_)
  refine PyProof.Rows.callWith_builtin1 (PyProof.Rows.args_cons ?_ rfl) rfl rfl
  refine Call_ (ld_blt I hg2 hm2 boot_set ?_)
  refine PyProof.Rows.callWith_type1 (PyProof.Rows.args_cons (thn (ha.run pins s σ H _ I h) fun v s1 ⟨x, H1, I1, r1, q1⟩ => PyProof.Rows.args_nil ?_) na) na rfl
  obtain ⟨l, ns, rfl, hq, h64, q1⟩ := q1
  cases r1
  obtain ⟨its, r, pl, hz⟩ := I1.list hq
  refine call_setL ns (I1.ok.hd hc) pl.isList (by simpa using RZ.intsAre_vals r) (by unfold scanBound; omega) fun s2 hs2 => ?_
  obtain ⟨h', tk, n, rfl, R, hn, hk⟩ := hs2
  refine PyProof.Rows.args_nil ?_
  have I2 : Inv X pins σ H1 { s1 with heap := h', toks := tk } := I1.kept fun b o e => hk b o e
  have R2 : SetR X.w ({ s1 with heap := h', toks := tk } : Shared).heap s1.heap.objs.size (fun j => decide (j ∈ ns)) n := R
  generalize s1.heap.objs.size = ad at R2 ⊢
  generalize ({ s1 with heap := h', toks := tk } : Shared) = s2 at R2 I2 ⊢
  refine sorted_set R2 (I2.ok.hd hc) (by omega) fun s' p out c ms k g o hp hg hi hs hm hl => ?_
  have hlen : (ms.map V.int).length ≤ sizeLine := by rw [List.length_map, hl, sizeLine_eq]; omega
  have hnp : H1 p = none := I2.hok.fresh hp
  have J : Inv X pins σ (upd H1 p (.lst (ms.map V.int))) { s2 with heap := s'.heap, gens := s'.gens, drawn := s'.drawn, toks := s'.toks } :=
    I2.call (ch := []) (Un.laid k hp hnp) (I2.hok.laid k hp ⟨hlen, out.toList, c, vals_of_ints hi, hg⟩) (by rw [g]; exact I2.bare) (fun _ z => nomatch z)
  have e : s' = { s2 with heap := s'.heap, gens := s'.gens, drawn := s'.drawn, toks := s'.toks } := by
    cases s'
    cases s2
    cases o
    rfl
  rw [e]
  exact ⟨.ref p, _, J, rfl, q1 ms p hs (fun k => by rw [hm k]; exact decide_eq_true_iff) hnp⟩
end CH
end

section
set_option Elab.async false
set_option linter.all false
set_option maxRecDepth 100000
set_option maxHeartbeats 4000000
/-! a method called in a try -/
namespace CH
open PySem PySem.Spec PyProof.Rows L2
/-- o.m(..): what it raises is told by the locals -/
def tMeX (C : Addr) (m : Str) (sp : Sp) (E : L2.St → XK) (ta : TE) (t : TA) : TE := fun σ H Q =>
  ta σ H fun x H1 => ∃ a dx fs, x = .ref a ∧ H1 a = some (.ins C dx fs) ∧ fs.lookup m = none ∧ t σ H1 fun vs H2 => sp (x :: vs) H2 Q (E σ)
section
variable {X : Cx} {k j : Nat} {C : Addr} {m : Str} {sp : Sp} {pos apos : Pos} {e o : Expr} {es : List Expr} {ta : TE} {t : TA} {W : WX}
theorem pe_mtS {pl : Sem Bool} (c : MetX X.prog X.w X.K X.mg X.base k C m sp) (hr : Room j X.A) (hk : k ≤ j) (tk : L2N.Takes X W) (he : PE X o ta) (ha : PA X (e :: es) t)
    (hst : starEach (e :: es) X.env = (false, eval e X.env) :: starEach es X.env := by rfl) (hpl : (backTo pos (starEach es X.env)).any (·.1) = false := by rfl)
    (ht : eval (.Call (.Attribute o m apos) (e :: es) [] pos) X.env = (do
      let ov ← eval o X.env
      standAt apos.atName
      let fx ← holding [ov] (getMethod ov m pl)
      callWith pos fx.1 fx.2 (backTo pos (starEach (e :: es) X.env)) (backToKw pos (keywordEach [] X.env))) := by rfl) :
    PE X (.Call (.Attribute o m apos) (e :: es) [] pos) (tMeX C m sp (WE W) ta t) := by
  obtain ⟨f, fd, ps, cl, hm, F, b⟩ := c.ex
  constructor
  intro pins s σ H Q I h
  apply PySem.W.methodCall_KW (pl := pl) (thn (he.run pins s σ H _ I h) ?_) ht
  rintro u s1 ⟨x, H1, I1, rx, a, dx, fs, ex, ea, l, q⟩
  subst ex
  obtain rfl : u = Value.ref a := rx
  apply getmeth_ok I1 ea cl hm l
  apply PySem.W.callWith_K (first := [.ref a]) (h₀ := X.base) I.ok.mod.kin hm.kp (thn (ha.run pos pins s1 σ H1 _ I1 q) ?_) hst hpl
  rintro us s2 ⟨vs, H2, I2, r, q2⟩
  exact ⟨I2.kIn, run_fnS (us := .ref a :: us) (vs := .ref a :: vs) F (hr.mono hk) b (L2N.passAt tk σ) I2 (.cons rfl r) q2⟩
end
end CH
end

section
set_option Elab.async false
set_option linter.all false
set_option maxRecDepth 100000
set_option maxHeartbeats 4000000
/-! {k: v} with one tuple as key; a dict with tuples as keys against {} -/
namespace CH
open PySem PySem.Spec PyProof.Rows L2
/-- {k: v}: the new dict stands empty while the two are made -/
def tDispT (tk tv : TE) : TE := fun σ H Q => ∀ p, H p = none → tk σ (upd H p (.dT [])) fun x H1 => tv σ H1 fun y H2 => H2 p = some (.dT []) ∧ ∃ (b : Addr) (ks : List Key), x = .ref b ∧ H2 b = some (.tup (ks.map kV)) ∧ Q (.ref p) (upd H2 p (.dT [(ks, y)]))
section
variable {X : Cx} {pos : Pos} {k v : Expr} {tk tv : TE}
theorem pe_disp1T (hu : X.A.units + 1 < cLine) (hk : PE X k tk) (hv : PE X v tv) : PE X (.Dict [some k] [v] pos) (tDispT tk tv) := by
  constructor
  intro pins s σ H Q I q
  have hn := I.hok.fresh (Nat.le_refl s.heap.objs.size)
  have I1 := I.laid (a := s.heap.objs.size) (o := .dT []) (h' := s.heap.push { cls := .type "dict", data := .dict #[] }) (t' := s.toks) (fun _ _ z => Heap.get?_push_of_some _ z) (Nat.le_refl _) (dt_empty s.heap I.big)
  have trees := zip_pairTrees [some k] [v] X.env pos rfl rfl
  rw [arm_eval_Dict, trees, dictDisplay_pairs _ (by intro z; cases z) (by show 1 < 17; decide)]
  apply wpAny_bind
  apply wpAny_standAt
  apply wpAny_bind
  apply wpAny_subDictH (knd := tupleKind (mixKind X.prog X.w)) (show (tupleKind (mixKind X.prog X.w)).room X.A from by show _ < _; omega) (by show 1 ≤ 15; decide)
  apply thn ((pps_cons (pos := pos) hk hv pps_nil).run pins _ σ _ (fun ps H2 => match ps with
    | [(x, y)] => H2 s.heap.objs.size = some (.dT []) ∧ ∃ (b : Addr) (ks : List Key), x = .ref b ∧ H2 b = some (.tup (ks.map kV)) ∧ Q (.ref s.heap.objs.size) (upd H2 s.heap.objs.size (.dT [(ks, y)]))
    | _ => False) I1 (q _ hn))
  rintro ws s2 ⟨ps, H2, I2, rel, c⟩
  match ps, ws, rel, c with
  | [(x, y)], [(u1, u2)], rel, ⟨e, b, ks, ex, eb, q2⟩ =>
    obtain ⟨r1, r2⟩ : RelV x u1 ∧ RelV y u2 := by
      cases rel with
      | cons h _ => exact h
    subst ex
    obtain rfl : u1 = Value.ref b := r1
    obtain ⟨_, hd, xs, kt, dd⟩ := dt_of I2.hok e
    cases kt
    refine ⟨[(ks, b, u2)], ⟨rfl, rfl, key_of I2.hok eb, True.intro⟩, dd, fun h' tk dd' hs => wpAny_pure ?_⟩
    obtain ⟨o, es, ep, ho, x1, x2, x3, _, x5⟩ := dd'
    refine ⟨.ref s.heap.objs.size, _, ?_, rfl, q2⟩
    refine d_write I2 (by rw [e]; exact True.intro) hs ⟨o, ho⟩ ⟨by show 1 ≤ sizeLine; decide, hd, [(ks, b, u2)], .cons ⟨rfl, ?_, r2⟩ .nil, o, es, ep, ho, x1, x2, x3, x5⟩
    rw [upd_ne (ne_of eb e (fun z => nomatch z))]
    exact eb
end
/-- two dicts, the second one bare: alike just where the first one is -/
theorem same_bare {P : Program} {w : World} {A : Around} {E : Value → Shared → Prop} {s : Shared} {nm : String} {a b : Addr} {oa ob : Obj} {es : Array DictEntry} {ep ep' : Nat} {Q : Bool → Shared → Prop} (ha : (a == sysModules) = false) (hb : (b == sysModules) = false)
    (hoa : s.heap.get? a = some oa) (hda : oa.data = .dict es ep) (hob : s.heap.get? b = some ob) (hdb : ob.data = .dict #[] ep') (h : Q (decide (es.size = 0)) s) : wpAny (model P w) A (Builtin.Dict.samePairs nm a b) Q E s := by
  have na : ¬ (a == sysModules) = true := by rw [ha]; decide
  have nb : ¬ (b == sysModules) = true := by rw [hb]; decide
  unfold Builtin.Dict.samePairs Builtin.Dict.showsAll
  rw [if_neg na, if_neg nb]
  apply wpAny_bind
  apply wpAny_pure
  apply wpAny_bind
  apply wpAny_pure
  apply wpAny_bind
  apply wpAny_dictEntries hoa hda
  dsimp only
  apply wpAny_bind
  apply wpAny_dictEntries hob hdb
  by_cases z : es.size = 0
  · rw [decide_eq_true z] at h
    rw [if_neg (by rw [z]; decide), z]
    refine wpAny_bind (wpAny_dictEpoch hoa hda ?_)
    refine wpAny_bind ?_
    rw [Std.Legacy.Range.forIn_eq_forIn_range']
    simp only [Std.Legacy.Range.size, Nat.sub_zero, Nat.add_sub_cancel, Nat.div_one, List.range'_zero]
    rw [List.forIn_nil]
    refine wpAny_pure ?_
    exact wpAny_pure h
  · rw [decide_eq_false z] at h
    rw [if_pos (by
      show (!(es.size == 0)) = true
      rw [beq_eq_false_iff_ne.mpr z] <;> rfl)]
    apply wpAny_bind
    apply wpAny_rule
    exact wpAny_pure h
def rNeDT0 : R2 := fun x y H Q => ∃ (a b : Addr) (kvs : List (List Key × V)), x = .ref a ∧ y = .ref b ∧ H a = some (.dT kvs) ∧ H b = some (.dT []) ∧ Q (.bl (!decide (kvs = []))) H
theorem op_neDT0 {X : Cx} (hu : X.A.units < cLine) : OpR X (compareOp .NotEq) rNeDT0 := by
  intro pins s σ H x y v u Q I rx ry h
  obtain ⟨a, b, kvs, rfl, rfl, ea, eb, q⟩ := h
  obtain rfl : v = Value.ref a := rx
  obtain rfl : u = Value.ref b := ry
  obtain ⟨_, ya, va, ra, da⟩ := dt_of I.hok ea
  obtain ⟨_, yb, vb, rb, db⟩ := dt_of I.hok eb
  cases rb
  have la := Paired.length ra
  have hz : ∀ {es : Array DictEntry}, es.toList = va.map (entryOfKey (tupleKind (mixKind X.prog X.w))) → decide (es.size = 0) = decide (kvs = []) := fun e => by
    have l := congrArg List.length e
    rw [Array.length_toList, List.length_map, ← la] at l
    exact decide_eq_decide.mpr ⟨fun z => List.length_eq_zero_iff.mp (by omega), fun z => by rw [l, z]; rfl⟩
  have ta := da.typeIs
  have tb := db.typeIs
  obtain ⟨oa, es, ep, hoa, _, hda, hea, _⟩ := da
  obtain ⟨ob, es', ep', hob, _, hdb, heb, _⟩ := db
  obtain rfl : es' = #[] := by
    have l := congrArg List.length heb
    rw [Array.length_toList] at l
    exact Array.eq_empty_of_size_eq_zero l
  have fin : EP X pins σ Q (Value.bool (!decide (es.size = 0))) s := fin_bl I q (by rw [hz hea])
  refine wpAny_richCompare_same_room (op := .NotEq) ta tb PySem.F.slot_dict_ne (wpAny_call_entry PySem.F.slot_dict_ne ta PySem.F.entry_dict_ne ?_ (PySem.F.args_dict_ne_2 _ _)) hu
  show wpAny _ _ (Builtin.Dict.dictSlotArgs "__ne__" ⟨[.ref a, .ref b], []⟩ >>= _) _ _ s
  refine wpAny_bind ?_
  unfold Builtin.Dict.dictSlotArgs
  refine wpAny_bind (wpAny_notOrdered_dict ta ?_)
  show wpAny _ _ (pure (Value.ref a, Value.ref b)) _ _ s
  refine wpAny_pure (wpAny_bind (wpAny_isInstance (T := "dict") tb PySem.F.sub_dict_dict ?_))
  simp only [Bool.not_true, Bool.false_eq_true, if_false]
  refine wpAny_bind (wpAny_pure (wpAny_bind (wpAny_pure (wpAny_bind (same_bare ya yb hoa hda hob hdb ?_)))))
  refine wpAny_pure ⟨_, rfl, (fun x => nomatch x), ?_⟩
  rw [show (decide (es.size = 0) == false) = !decide (es.size = 0) from by cases decide (es.size = 0) <;> rfl]
  exact fin
end CH
end

section
set_option Elab.async false
set_option linter.all false
set_option maxRecDepth 100000
set_option maxHeartbeats 4000000
/-! dicts with tuples as keys walked; for over zip -/
namespace CH
open PySem PySem.Spec PyProof.Rows L2
/-- for k in d, d with tuples as keys, locked -/
theorem for_keysT {d : Addr} {od : Obj} {kvs : List (List Key × V)} {g : TG} {tb : TS} {D : Ends} {σ : L2.St} {H : Hp} (Pv : Nat → L2.St → Hp → Prop) (h0 : Pv 0 σ H) (hl : ∀ i σ H, Pv i σ H → H d = some (.frz od (.dT kvs)))
    (hs : ∀ (i : Nat) (k : List Key) (v : V) (q : Addr) (σ : L2.St) (H : Hp), kvs[i]? = some (k, v) → H q = some (.tup (k.map kV)) → Pv i σ H → g (.ref q) σ H fun σ2 H2 => tb { D with nx := Pv (i + 1), ct := Pv (i + 1), bk := D.nx } σ2 H2) (hd : ∀ σ H, Pv kvs.length σ H → D.nx σ H) :
    ∃ W : Nat → Nat → L2.St → Hp → Prop, (∃ m, W 0 m σ H) ∧ ∀ i m σ H, W i m σ H →
      ((Itkt d od kvs).stop i H ∧ D.nx σ H) ∨ ((Itkt d od kvs).go i H ∧ ∃ N : L2.St → Hp → Prop, (∀ σ' H', N σ' H' → ∃ m', m' < m ∧ W (i + 1) m' σ' H') ∧ ∀ v H', (Itkt d od kvs).yld i H v H' → g v σ H' fun σ2 H2 => tb { D with nx := N, ct := N, bk := D.nx } σ2 H2) := by
  refine ⟨fun i m σ H => m = kvs.length - i ∧ i ≤ kvs.length ∧ Pv i σ H, ⟨kvs.length, rfl, Nat.zero_le _, h0⟩, ?_⟩
  rintro i m σ H ⟨rfl, hi, p⟩
  have q := hl i σ H p
  by_cases hlt : i < kvs.length
  · refine .inr ⟨⟨q, hlt⟩, Pv (i + 1), fun σ' H' p' => ⟨kvs.length - (i + 1), by omega, rfl, hlt, p'⟩, fun v H' y => ?_⟩
    obtain ⟨eH, k, z, a, hk, rfl, ha⟩ := y
    rw [eH]
    exact hs i k z a σ H hk ha p
  · have e : i = kvs.length := by omega
    subst e
    exact .inl ⟨⟨q, Nat.le_refl _⟩, hd σ H p⟩
/-- [φ for k in d], d with tuples as keys, locked -/
theorem lc_keysTT {d : Addr} {od : Obj} {kvs : List (List Key × V)} {i : Nat} {te : TE} {vs : List Nat} {σ : L2.St} {H0 : Hp} {D : Addr} {Qd : Hp → Prop} (φ : List Key → V) (h4 : kvs.length ≤ 4000) (hfz : H0 d = some (.frz od (.dT kvs))) (nD : H0 D = none)
    (hw : ∀ x, wipe ((wipe σ vs).set i (some x)) vs = wipe σ vs)
    (hs : ∀ (k : List Key) (v : V) (q : Addr) (H3 : Hp), (k, v) ∈ kvs → H3 q = some (.tup (k.map kV)) → H3 d = some (.frz od (.dT kvs)) → ∀ Q : VK, Q (φ k) H3 → te ((wipe σ vs).set i (some (.ref q))) H3 Q)
    (hd : Qd (upd H0 D (.lst (kvs.map fun p => φ p.1)))) :
    ∃ W : Nat → Nat → Hp → Prop, (∃ m, W 0 m (upd H0 D (.lst []))) ∧ ∀ i1 m H, W i1 m H →
      ((Itkt d od kvs).stop i1 H ∧ Qd H) ∨ ((Itkt d od kvs).go i1 H ∧ ∃ Nx : Hp → Prop, (∀ H', Nx H' → ∃ m', m' < m ∧ W (i1 + 1) m' H') ∧ ∀ x H', (Itkt d od kvs).yld i1 H x H' → gName i x (wipe σ vs) H' fun σ2 H2 => wipe σ2 vs = wipe σ vs ∧ tYes σ2 H2 fun b H3 =>
        if b = true then te σ2 H3 fun y H4 => ∃ acc, H4 D = some (.lst acc) ∧ acc.length < sizeLine ∧ Nx (upd H4 D (.lst (acc ++ [y]))) else Nx H3) := by
  have nd : d ≠ D := fun z => by rw [z, nD] at hfz; cases hfz
  refine ⟨fun j m H => m = kvs.length - j ∧ j ≤ kvs.length ∧ H = upd H0 D (.lst ((kvs.take j).map fun p => φ p.1)), ⟨kvs.length, rfl, Nat.zero_le _, rfl⟩, ?_⟩
  rintro j m H ⟨rfl, hj, rfl⟩
  have hf2 : (upd H0 D (.lst ((kvs.take j).map fun p => φ p.1))) d = some (.frz od (.dT kvs)) := by rw [upd_ne nd]; exact hfz
  by_cases hlt : j < kvs.length
  · have hx : kvs[j]? = some kvs[j] := List.getElem?_eq_getElem hlt
    refine .inr ⟨⟨hf2, hlt⟩, fun H' => H' = upd H0 D (.lst ((kvs.take (j + 1)).map fun p => φ p.1)), fun H' p' => ⟨kvs.length - (j + 1), by omega, rfl, hlt, p'⟩, fun v H' y => ?_⟩
    obtain ⟨rfl, k, z, q, hk, rfl, hq⟩ := y
    refine ⟨hw _, yesT ?_⟩
    refine hs k z q _ (List.mem_of_getElem? hk) hq hf2 _ ⟨_, upd_same, ?_, ?_⟩
    · rw [List.length_map, List.length_take]
      exact lt80 (by omega)
    · have e1 : kvs.take (j + 1) = kvs.take j ++ [(k, z)] := by rw [List.take_add_one, hk] <;> rfl
      rw [e1, List.map_append, upd_upd] <;> rfl
  · have e : j = kvs.length := by omega
    subst e
    refine .inl ⟨⟨hf2, Nat.le_refl _⟩, ?_⟩
    rw [List.take_length]
    exact hd
/-- for x, y in zip(xs, ys) -/
theorem for_zipL {K : PySem.W.Frag} {a b : Addr} {xs ys : List V} {g : TG} {tb : TS} {D : Ends} {σ : L2.St} {H : Hp} (Pv : Nat → L2.St → Hp → Prop) (hll : xs.length = ys.length) (h0 : Pv 0 σ H) (hl : ∀ i σ H, Pv i σ H → SqL K H a xs ∧ SqL K H b ys)
    (hs : ∀ (i : Nat) (x y : V) (T : Addr) (σ : L2.St) (H : Hp), xs[i]? = some x → ys[i]? = some y → Pv i σ H → H T = none → g (.ref T) σ (upd H T (.tup [x, y])) fun σ2 H2 => tb { D with nx := Pv (i + 1), ct := Pv (i + 1), bk := D.nx } σ2 H2) (hd : ∀ σ H, Pv xs.length σ H → D.nx σ H) :
    ∃ W : Nat → Nat → L2.St → Hp → Prop, (∃ m, W 0 m σ H) ∧ ∀ i m σ H, W i m σ H →
      ((Itz K a b).stop i H ∧ D.nx σ H) ∨ ((Itz K a b).go i H ∧ ∃ N : L2.St → Hp → Prop, (∀ σ' H', N σ' H' → ∃ m', m' < m ∧ W (i + 1) m' σ' H') ∧ ∀ v H', (Itz K a b).yld i H v H' → g v σ H' fun σ2 H2 => tb { D with nx := N, ct := N, bk := D.nx } σ2 H2) := by
  refine ⟨fun i m σ H => m = xs.length - i ∧ i ≤ xs.length ∧ Pv i σ H, ⟨xs.length, rfl, Nat.zero_le _, h0⟩, ?_⟩
  rintro i m σ H ⟨rfl, hi, p⟩
  obtain ⟨qx, qy⟩ := hl i σ H p
  by_cases hlt : i < xs.length
  · have hx : xs[i]? = some xs[i] := List.getElem?_eq_getElem hlt
    have hlt2 : i < ys.length := by omega
    have hy : ys[i]? = some ys[i] := List.getElem?_eq_getElem hlt2
    refine .inr ⟨⟨xs, ys, _, _, qx, qy, hx, hy⟩, Pv (i + 1), fun σ' H' p' => ⟨xs.length - (i + 1), by omega, rfl, hlt, p'⟩, fun v H' y => ?_⟩
    obtain ⟨T, x', y', rfl, hT, rfl, f1, f2⟩ := y
    exact hs i x' y' T σ H (f1 xs qx) (f2 ys qy) p hT
  · have e : i = xs.length := by omega
    subst e
    exact .inl ⟨⟨xs, ys, qx, qy, Or.inl (Nat.le_refl _)⟩, hd σ H p⟩
theorem len_put {κ : Type} [DecidableEq κ] (kvs : List (κ × V)) (k : κ) (v : V) : (putK kvs k v).length ≤ kvs.length + 1 := by
  unfold putK
  split
  · rw [List.length_map]
    omega
  · rw [List.length_append]
    exact Nat.le_refl _
end CH
end

section
set_option Elab.async false
set_option linter.all false
set_option maxRecDepth 100000
set_option maxHeartbeats 4000000
/-! calls where an error is handled -/
namespace CH
open PySem PySem.Spec PyProof.Rows L2
open L2H (FnH HotC RoomH Hot1 cxH fn_ofH run_fnH roomH_of)
theorem hot_of {X : Cx} {a : Addr} {oe : Obj} {cls : Value} {d : Option Addr} {pn : List (Addr × Obj)} (hz : L2N.Zn cls d oe) (hf : ∃ vs, oe.data = .fields vs) : HotC (X.suite a ((a, oe) :: pn)) := by
  obtain ⟨vs, e⟩ := hf
  exact ⟨(a, oe), ⟨rfl, vs, e, hz.2.2 vs e⟩, List.mem_cons_self⟩
theorem roomS {k : Nat} {X : Cx} {a : Addr} {pn : List (Addr × Obj)} (hr : Room k X.A) : RoomH k (X.suite a pn).A := ⟨hr.dp, hr.un⟩
section
variable {P : Program} {w : World} {K : PySem.W.Frag} {mg : Str → Option Value} {base : Heap}
/-- a method that may be called there, and raises nothing -/
structure MetH (P : Program) (w : World) (K : PySem.W.Frag) (mg : Str → Option Value) (base : Heap) (k : Nat) (C : Addr) (m : Str) (sp : Sp) : Prop where
  ex : ∃ (f : Addr) (fd : FuncData) (ps : List Str), Cls K C ∧ Meth K C m f ∧ FnH P w K mg base CX0 k f fd ps sp ∧ Binds K fd ps []
abbrev BodiesH (CX : CXT) (P : Program) (w : World) (K : PySem.W.Frag) (mg : Str → Option Value) (base : Heap) (N : List Str) (qual : Str) (st : Stmt) (c : Addr) (k : Nat) (sp : Sp) : Prop :=
  ∀ (f : Addr) (A : Around) (outer : List Env) (s : Shared) (H : Hp) (vs : List V) (Q : VK) (E : XK) (p : Addr × Obj), Hot1 A p → RoomH k (A.deeper (envOfC qual (defScope st) s.heap.objs.size f (.ref c))) → sp vs H Q E →
      ∃ t, PSs (cxH CX P w K mg base N qual (defScope st) f (.ref c) A outer s H E p) (defBody st) t ∧ t { nx := fun _ H' => Q .non H', rt := Q } (start N vs) H
theorem metH_of {C : Addr} {m qual : Str} {st : Stmt} {c : Addr} {N ps : List Str} {k : Nat} {sp : Sp} (D : MetT K C m qual st c) (S : FnScope N ps (defScope st)) (hb : BindF ps m qual st)
    (len : ∀ vs H Q E, sp vs H Q E → vs.length = ps.length) (hbody : BodiesH CX0 P w K mg base N qual st c k sp) : MetH P w K mg base (k + 1) C m sp := by
  obtain ⟨f, fd, F, hm, cl, hc⟩ := D.ex
  have b := FunD.bindsN F hb
  obtain ⟨oc, od, dV, kV, doc, pm, an, cdv, ct, osl, rfl, lk, hcd, _, _⟩ := F.ex
  obtain rfl : cdv = .ref c := hc _ _ _ _ lk
  exact ⟨f, _, ps, cl, hm, fn_ofH lk hcd S len fun A outer s H vs Q E p hot hr h => hbody f A outer s H vs Q E p hot hr h, b⟩
end
/-- a loop over range(n), its body as it stands -/
theorem tfor_range {n : Nat} {g : TG} {tb : TS} {D : Ends} {σ : L2.St} {H : Hp} (hn : n ≤ 100000) (Pv : Nat → L2.St → Hp → Prop) (h0 : Pv 0 σ H)
    (hs : ∀ i σ H, i < n → Pv i σ H → g (.int (0 + (i : Int))) σ H fun σ2 H2 => tb { D with nx := Pv (i + 1), ct := Pv (i + 1), bk := D.nx } σ2 H2) (hd : ∀ σ H, Pv n σ H → D.nx σ H) : tFor (iRng1 (tCons (tC (.int (n : Int))) tNil)) g tb D σ H := by
  have e : (2 : Int) ^ 62 = 4611686018427387904 := by decide
  exact ⟨(n : Int), rfl, by rw [e]; omega, by rw [e]; omega, for_range (lo := 0) (n := n) (tb := tb) Pv h0 hs hd⟩
section
variable {X : Cx} {k j : Nat} {C : Addr} {m : Str} {sp : Sp} {pos apos : Pos} {o : Expr} {ta : TE}
/-- o.m() there -/
theorem pe_mtH0 {pl : Sem Bool} (c : MetH X.prog X.w X.K X.mg X.base k C m sp) (hr : RoomH j X.A) (hk : k ≤ j) (hot : HotC X) (he : PE X o ta)
    (ht : eval (.Call (.Attribute o m apos) [] [] pos) X.env = (do
      let ov ← eval o X.env
      standAt apos.atName
      let fx ← holding [ov] (getMethod ov m pl)
      callWith pos fx.1 fx.2 (backTo pos (starEach [] X.env)) (backToKw pos (keywordEach [] X.env))) := by rfl) :
    PE X (.Call (.Attribute o m apos) [] [] pos) (tMeth C m sp [] C8.E0 ta tNil) := by
  obtain ⟨f, fd, ps, cl, hm, F, b⟩ := c.ex
  constructor
  intro pins s σ H Q I h
  apply PySem.W.methodCall_KW (pl := pl) (thn (he.run pins s σ H _ I h) ?_) ht
  rintro u s1 ⟨x, H1, I1, rx, a, dx, fs, ex, ea, l, q⟩
  subst ex
  obtain rfl : u = Value.ref a := rx
  apply getmeth_ok I1 ea cl hm l
  apply PySem.W.callWith_K0 (first := [.ref a]) I1.kIn hm.kp
  exact run_fnH (E := fun _ => C8.E0) (us := [.ref a]) (vs := [.ref a]) F (hr.mono hk) hot b (fun _ _ _ _ _ _ z => False.elim z) I1 (.cons rfl .nil) q
end
end CH
end

section
set_option Elab.async false
set_option linter.all false
set_option maxRecDepth 100000
set_option maxHeartbeats 4000000
/-! books: what is known, in two turns -/
namespace CH
open PySem PySem.Spec PyProof.Rows L2
instance (a b : Wd) : Decidable (plt a b) := by unfold plt; exact inferInstance
/-- the count that is next -/
def nextC (ws : List Wd) : Int := match ws.getLast? with
  | some w => w.c + 1
  | none => 1
theorem once_nodup {ws us : List Wd} (h : Once ws us) : us.Nodup := List.Pairwise.imp (fun {a b} z e => by subst e; exact plt_irr z) h.ord
theorem once_len_eq {ws us : List Wd} (h : Once ws us) (nd : ws.Nodup) : us.length = ws.length := by
  have a := nodup_sub_len (once_nodup h) fun x hx => (h.mem x).mp hx
  have b := nodup_sub_len nd fun x hx => (h.mem x).mpr hx
  omega
/-- the last one has the greatest count -/
theorem last_max {us : List Wd} (h : us.Pairwise plt) {w : Wd} (e : us.getLast? = some w) : ∀ x ∈ us, x.c ≤ w.c := by
  intro x hx
  obtain ⟨vs, rfl⟩ := List.getLast?_eq_some_iff.mp e
  rcases List.mem_append.mp hx with hx | hx
  · have := (List.pairwise_append.mp h).2.2 x hx w (List.mem_singleton.mpr rfl)
    rcases this with z | z
    · exact Int.le_of_lt z
    · exact Int.le_of_eq z.1
  · rw [List.mem_singleton.mp hx]
    exact Int.le_refl _
theorem next_max {ks ws : List Wd} {m : Int} (h : Once ks ws) (p : ∀ x ∈ ks, 0 ≤ x.c) (hm : m ∈ (0 : Int) :: ks.map (·.c)) (top : ∀ y ∈ (0 : Int) :: ks.map (·.c), y ≤ m) : nextC ws = m + 1 := by
  unfold nextC
  cases e : ws.getLast? with
  | none =>
    have : ws = [] := List.getLast?_eq_none_iff.mp e
    subst this
    have : ks = [] := List.eq_nil_iff_forall_not_mem.mpr fun x hx => absurd ((h.mem x).mpr hx) (by simp)
    subst this
    rw [List.mem_singleton.mp hm]
    rfl
  | some w =>
    have hw : w ∈ ws := List.mem_of_getLast? e
    have hk := (h.mem w).mp hw
    have a := top w.c (List.mem_cons_of_mem _ (List.mem_map.mpr ⟨w, hk, rfl⟩))
    have b : m ≤ w.c := by
      rcases List.mem_cons.mp hm with z | z
      · have := p w hk
        omega
      · obtain ⟨x, hx, rfl⟩ := List.mem_map.mp z
        exact last_max h.ord e x ((h.mem x).mpr hx)
    show w.c + 1 = m + 1
    omega
theorem once_snoc {ks ws : List Wd} {n : Wd} (h : Once ks ws) (lt : ∀ x ∈ ks, x.c < n.c) : Once (ks ++ [n]) (ws ++ [n]) := by
  refine ⟨fun x => by rw [List.mem_append, List.mem_append, h.mem x], List.pairwise_append.mpr ⟨h.ord, List.pairwise_singleton _ _, fun a ha b hb => ?_⟩⟩
  rw [List.mem_singleton.mp hb]
  exact .inl (lt a ((h.mem a).mp ha))
/-- words that were not known, put behind -/
def newOf (ks us : List Wd) : List Wd := us.filter fun x => !decide (x ∈ ks)
theorem once_more {ks ws us ds : List Wd} (h : Once ks ws) (g : Once (ws ++ us) ds) : Once (ks ++ newOf ks us) ds := by
  refine ⟨fun x => ?_, g.ord⟩
  rw [g.mem x, List.mem_append, List.mem_append, h.mem x]
  constructor
  · rintro (z | z)
    · exact .inl z
    · by_cases e : x ∈ ks
      · exact .inl e
      · exact .inr (List.mem_filter.mpr ⟨z, by rw [decide_eq_false e]; rfl⟩)
  · rintro (z | z)
    · exact .inl z
    · exact .inr (List.mem_filter.mp z).1
theorem new_nodup {ks us : List Wd} (h : ks.Nodup) (g : us.Nodup) : (ks ++ newOf ks us).Nodup := by
  refine List.nodup_append.mpr ⟨h, g.filter _, fun a ha b hb e => ?_⟩
  subst e
  have := (List.mem_filter.mp hb).2
  rw [decide_eq_true ha] at this
  cases this
/-- there is one such list -/
theorem once_ex (ws : List Wd) (al : Alike ws) : ∃ us, Once ws us := by
  induction ws with
  | nil => exact ⟨[], fun x => Iff.rfl, List.Pairwise.nil⟩
  | cons w ws ih =>
    obtain ⟨us, h⟩ := ih fun a ha b hb => al a (List.mem_cons_of_mem _ ha) b (List.mem_cons_of_mem _ hb)
    by_cases e : w ∈ ws
    · exact ⟨us, fun x => by
        rw [h.mem x, List.mem_cons]
        exact ⟨.inr, fun z => z.elim (fun y => by rw [y]; exact e) id⟩, h.ord⟩
    · refine ⟨us.filter (fun x => decide (plt x w)) ++ w :: us.filter (fun x => !decide (plt x w)), fun x => ?_, ?_⟩
      · rw [List.mem_append, List.mem_cons, List.mem_cons, List.mem_filter, List.mem_filter, ← h.mem x]
        constructor
        · rintro (z | z | z)
          · exact .inr z.1
          · exact .inl z
          · exact .inr z.1
        · rintro (z | z)
          · exact .inr (.inl z)
          · by_cases p : plt x w
            · exact .inl ⟨z, decide_eq_true p⟩
            · exact .inr (.inr ⟨z, by rw [decide_eq_false p]; rfl⟩)
      · have gt : ∀ x ∈ us, ¬ plt x w → plt w x := fun x hx n => by
          have hx2 := (h.mem x).mp hx
          have ne : ¬ (x.c = w.c ∧ x.h = w.h) := fun z => e (by rw [← al x (List.mem_cons_of_mem _ hx2) w List.mem_cons_self z.1 z.2]; exact hx2)
          unfold plt at n ⊢
          omega
        refine List.pairwise_append.mpr ⟨h.ord.filter _, List.pairwise_cons.mpr ⟨fun b hb => ?_, h.ord.filter _⟩, fun a ha b hb => ?_⟩
        · obtain ⟨b1, b2⟩ := List.mem_filter.mp hb
          exact gt b b1 fun z => by rw [decide_eq_true z] at b2; cases b2
        · obtain ⟨a1, a2⟩ := List.mem_filter.mp ha
          have a2 := of_decide_eq_true a2
          rcases List.mem_cons.mp hb with rfl | hb
          · exact a2
          · obtain ⟨b1, b2⟩ := List.mem_filter.mp hb
            have := gt b b1 fun z => by rw [decide_eq_true z] at b2; cases b2
            unfold plt at a2 this ⊢
            omega
end CH
end

section
set_option Elab.async false
set_option linter.all false
set_option maxRecDepth 100000
set_option maxHeartbeats 4000000
/-! several meetings -/
namespace CH
open PySem PySem.Spec PyProof.Rows L2
/-- an hour set before, or none -/
def oldV : Option Int → V
  | none => .non
  | some i => .int i
def jumpZ (x : Option Int) (h : Int) : Int := match x with
  | none => 0
  | some i => if h - i < 0 then -(h - i) else h - i
/-- lists of whole numbers at l -/
def LsAt (K : PySem.W.Frag) (H : Hp) (l : Addr) (css : List (List Int)) : Prop := ∃ rs : List Addr, SqL K H l (rs.map V.ref) ∧ Paired (fun r ns => SqL K H r (ns.map V.int)) rs css
/-- meetings at l -/
def MsAt (K : PySem.W.Frag) (H : Hp) (l : Addr) (ms : List Mt) : Prop := ∃ as : List Addr, SqL K H l (as.map V.ref) ∧ Paired (fun a m => MAt K H a m) as ms
theorem paired_imp {α β : Type} {F G : α → β → Prop} (h : ∀ a b, F a b → G a b) : ∀ {xs : List α} {ys : List β}, Paired F xs ys → Paired G xs ys
  | _, _, .nil => .nil
  | _, _, .cons a p => .cons (h _ _ a) (paired_imp h p)
theorem paired_imp_mem {α β : Type} {F G : α → β → Prop} : ∀ {xs : List α} {ys : List β}, (∀ a ∈ xs, ∀ b, F a b → G a b) → Paired F xs ys → Paired G xs ys
  | _, _, _, .nil => .nil
  | _, _, h, .cons a p => .cons (h _ (.head _) _ a) (paired_imp_mem (fun x hx => h x (.tail _ hx)) p)
theorem LsAt.k {K : PySem.W.Frag} {H H' : Hp} {l : Addr} {css : List (List Int)} (k : Kx H H') (h : LsAt K H l css) : LsAt K H' l css := by
  obtain ⟨rs, h1, h2⟩ := h
  exact ⟨rs, k.l h1, paired_imp (fun _ _ z => k.l z) h2⟩
theorem MsAt.k {K : PySem.W.Frag} {H H' : Hp} {l : Addr} {ms : List Mt} (k : Kx H H') (h : MsAt K H l ms) : MsAt K H' l ms := by
  obtain ⟨rs, h1, h2⟩ := h
  exact ⟨rs, k.l h1, paired_imp (fun _ _ z => z.k k) h2⟩
/-- meetings and hours as they are told to be tight -/
def tightB (cans : List (List Int)) (some_ spots : List Int) : Bool :=
  decide some_.Nodup && (some_.all fun x => decide (0 ≤ x ∧ x < (cans.length : Int))) && decide (dis spots < some_.length) && some_.all fun x => ((cans.getD x.toNat []).all fun h => decide (h ∈ spots))
/-- a table as it is told to be moved -/
def movedB (cans : List (List Int)) (olds : List (Option Int)) (spots prices rents : List Int) : Bool :=
  decide (spots.length = cans.length) && (decide (prices.length = cans.length) && (decide (rents.length = 12) && (decide spots.Nodup && ((rents.all fun x => decide (x ≤ 0)) && (((List.range cans.length).all fun i => decide (spots.getD i 0 ∈ cans.getD i [])) &&
  (((List.range cans.length).all fun i => (cans.getD i []).all fun h => decide (prices.getD i 0 + rents.getD h.toNat 0 ≤ jumpZ (olds.getD i none) h)) &&
  decide (((List.range cans.length).map fun i => jumpZ (olds.getD i none) (spots.getD i 0)).sum = prices.sum + rents.sum)))))))
/-- hours and jumps by them, as a dict -/
def jrow (r : List Int × Option Int) : List (Key × V) := r.1.map fun h => ((Sum.inl h : Key), V.int (jumpZ r.2 h))
def JsAt (H : Hp) (ds : List Addr) (rows : List (List Int × Option Int)) : Prop := Paired (fun d r => H d = some (.dK (jrow r)) ∧ r.1.Nodup ∧ r.1.length ≤ 12 ∧ ∀ h ∈ r.1, 0 ≤ h ∧ h ≤ 11) ds rows
theorem JsAt.k {H H' : Hp} {ds : List Addr} {rows : List (List Int × Option Int)} (k : Kx H H') (h : JsAt H ds rows) : JsAt H' ds rows := paired_imp (fun _ _ z => ⟨k.o _ _ z.1 (fun ps q => nomatch q), z.2⟩) h
theorem jrow_get {r : List Int × Option Int} {h : Int} : valV (jrow r) (Sum.inl h) = if h ∈ r.1 then some (.int (jumpZ r.2 h)) else none := by
  obtain ⟨C, x⟩ := r
  unfold jrow
  show valV (C.map fun h => ((Sum.inl h : Key), V.int (jumpZ x h))) (Sum.inl h) = if h ∈ C then some (.int (jumpZ x h)) else none
  induction C with
  | nil => rfl
  | cons a C ih =>
    by_cases e : a = h
    · subst e
      rw [List.map_cons, valV_pos (p := ((Sum.inl a : Key), V.int (jumpZ x a))) rfl, if_pos List.mem_cons_self]
    · rw [List.map_cons, valV_neg (p := ((Sum.inl a : Key), V.int (jumpZ x a))) (fun z => e (Sum.inl.inj z)), ih]
      by_cases z : h ∈ C
      · rw [if_pos z, if_pos (List.mem_cons_of_mem _ z)]
      · rw [if_neg z, if_neg fun q => by
          rcases List.mem_cons.mp q with q | q
          · exact e q.symm
          · exact z q]
/-- {key: value for h in hours}, the hours once each -/
theorem dc_ints {K : PySem.W.Frag} {a : Addr} {C : List Int} {f : Int → V} {s : Nat} {tv : TE} {vs : List Nat} {σ : L2.St} {H0 : Hp} {D : Addr} {Qd : Hp → Prop} (hl : SqL K H0 a (C.map V.int)) (nd : C.Nodup) (nD : H0 D = none) (h4 : C.length ≤ 4000)
    (hw : ∀ x, wipe ((wipe σ vs).set s (some x)) vs = wipe σ vs) (hg : ∀ x : V, ((wipe σ vs).set s (some x))[s]? = some (some x))
    (hs : ∀ (h : Int) (H3 : Hp), h ∈ C → Kx H0 H3 → ∀ Q : VK, (∀ H4, Kx H3 H4 → Q (f h) H4) → tv ((wipe σ vs).set s (some (.int h))) H3 Q)
    (hd : ∀ H3, Kx H0 H3 → H3 D = some (.dK (C.map fun h => ((Sum.inl h : Key), f h))) → Qd H3) :
    ∃ W : Nat → Nat → Hp → Prop, (∃ m, W 0 m (upd H0 D (.dK []))) ∧ ∀ i m H, W i m H →
      ((Itl K a).stop i H ∧ Qd H) ∨ ((Itl K a).go i H ∧ ∃ Nx : Hp → Prop, (∀ H', Nx H' → ∃ m', m' < m ∧ W (i + 1) m' H') ∧ ∀ x H', (Itl K a).yld i H x H' → gName s x (wipe σ vs) H' fun σ2 H2 => wipe σ2 vs = wipe σ vs ∧ tYes σ2 H2 fun b H3 =>
        if b = true then tVar s σ2 H3 fun y H4 => tv σ2 H4 fun z H5 => ∃ kvs k, y = kV k ∧ H5 D = some (.dK kvs) ∧ kvs.length < sizeLine ∧ Nx (upd H5 D (.dK (putK kvs k z))) else Nx H3) := by
  refine ⟨fun i m H => m = C.length - i ∧ i ≤ C.length ∧ Kx H0 H ∧ H D = some (.dK ((C.take i).map fun h => ((Sum.inl h : Key), f h))), ⟨C.length, rfl, Nat.zero_le _, Kx.new nD, upd_same⟩, ?_⟩
  rintro i m H ⟨rfl, hi, k3, hD⟩
  have qx := k3.l hl
  by_cases hlt : i < C.length
  · have hx : (C.map V.int)[i]? = some (.int C[i]) := by rw [List.getElem?_map, List.getElem?_eq_getElem hlt] <;> rfl
    refine .inr ⟨⟨_, _, qx, hx⟩, fun H' => Kx H0 H' ∧ H' D = some (.dK ((C.take (i + 1)).map fun h => ((Sum.inl h : Key), f h))), fun H' p' => ⟨C.length - (i + 1), by omega, rfl, hlt, p'.1, p'.2⟩, fun v H' y => ?_⟩
    obtain ⟨e, y⟩ := y
    subst e
    have ev : v = .int C[i] := Option.some.inj ((y _ qx).symm.trans hx)
    subst ev
    refine ⟨hw _, yesT ⟨_, hg _, ?_⟩⟩
    refine hs C[i] H' (List.getElem_mem hlt) k3 _ fun H4 k4 => ⟨_, Sum.inl C[i], rfl, k4.o _ _ hD (fun ps z => nomatch z), ?_, (k3.trans k4).mut nD, ?_⟩
    · rw [List.length_map, List.length_take]
      exact lt80 (by omega)
    · have hnew : valV ((C.take i).map fun h => ((Sum.inl h : Key), f h)) (Sum.inl C[i]) = none := by
        have nin : C[i] ∉ C.take i := fun z => by
          obtain ⟨j, hj⟩ := List.mem_iff_getElem?.mp z
          have hji : j < i := by
            have := (List.getElem?_eq_some_iff.mp hj).1
            rw [List.length_take] at this
            omega
          rw [List.getElem?_take_of_lt hji] at hj
          have ij := (List.getElem?_inj (i := j) (j := i) (by omega) nd).mp (hj.trans (List.getElem?_eq_getElem hlt).symm)
          omega
        generalize C.take i = B at nin
        induction B with
        | nil => rfl
        | cons b B ih =>
          rw [List.map_cons, valV_neg (p := ((Sum.inl b : Key), f b)) (fun z => nin (by rw [← Sum.inl.inj z]; exact List.mem_cons_self))]
          exact ih fun z => nin (List.mem_cons_of_mem _ z)
      rw [upd_same, putK_new _ hnew, List.take_add_one, List.getElem?_eq_getElem hlt, List.map_append] <;> rfl
  · have e : i = C.length := by omega
    subst e
    rw [List.take_length] at hD
    exact .inl ⟨⟨_, qx, by rw [List.length_map]; exact Nat.le_refl _⟩, hd H k3 hD⟩
theorem hoursL_nodup (m : Mt) (cs : List Str) (F : Int → Int → Str) : (hoursL m cs F).Nodup := by
  unfold hoursL
  refine List.Pairwise.map _ (fun a b h z => h (Int.ofNat.inj z)) (List.Nodup.sublist List.filter_sublist List.nodup_range)
/-- [.. for x, y in zip(xs, ys)], by an invariant -/
theorem lc_zipP {K : PySem.W.Frag} {a b : Addr} {xs ys : List V} {s1 s2 : Nat} {te : TE} {vs : List Nat} {σ : L2.St} {H0 : Hp} {D : Addr} {Qd : Hp → Prop} (Pv : Nat → Hp → Prop) (hl : xs.length = ys.length) (h0 : Pv 0 (upd H0 D (.lst []))) (ha : ∀ i H, Pv i H → SqL K H a xs ∧ SqL K H b ys)
    (hw : ∀ x y, wipe (((wipe σ vs).set s1 (some x)).set s2 (some y)) vs = wipe σ vs)
    (hs : ∀ (i : Nat) (x y : V) (T : Addr) (H3 : Hp), xs[i]? = some x → ys[i]? = some y → Pv i H3 → H3 T = none → te (((wipe σ vs).set s1 (some x)).set s2 (some y)) (upd H3 T (.tup [x, y])) fun z H4 => ∃ acc, H4 D = some (.lst acc) ∧ acc.length < sizeLine ∧ Pv (i + 1) (upd H4 D (.lst (acc ++ [z]))))
    (hd : ∀ H3, Pv xs.length H3 → Qd H3) :
    ∃ W : Nat → Nat → Hp → Prop, (∃ m, W 0 m (upd H0 D (.lst []))) ∧ ∀ i1 m H, W i1 m H →
      ((Itz K a b).stop i1 H ∧ Qd H) ∨ ((Itz K a b).go i1 H ∧ ∃ Nx : Hp → Prop, (∀ H', Nx H' → ∃ m', m' < m ∧ W (i1 + 1) m' H') ∧ ∀ x H', (Itz K a b).yld i1 H x H' → gTup K 2 (gCons (gName s1) (gCons (gName s2) gNil)) x (wipe σ vs) H' fun σ2 H2 => wipe σ2 vs = wipe σ vs ∧ tYes σ2 H2 fun b H3 =>
        if b = true then te σ2 H3 fun y H4 => ∃ acc, H4 D = some (.lst acc) ∧ acc.length < sizeLine ∧ Nx (upd H4 D (.lst (acc ++ [y]))) else Nx H3) := by
  refine ⟨fun i m H => m = xs.length - i ∧ i ≤ xs.length ∧ Pv i H, ⟨xs.length, rfl, Nat.zero_le _, h0⟩, ?_⟩
  rintro i m H ⟨rfl, hi, p⟩
  obtain ⟨qx, qy⟩ := ha i H p
  by_cases hlt : i < xs.length
  · have hx : xs[i]? = some xs[i] := List.getElem?_eq_getElem hlt
    have hlt2 : i < ys.length := by omega
    have hy : ys[i]? = some ys[i] := List.getElem?_eq_getElem hlt2
    refine .inr ⟨⟨xs, ys, _, _, qx, qy, hx, hy⟩, Pv (i + 1), fun H' p' => ⟨xs.length - (i + 1), by omega, rfl, hlt, p'⟩, fun v H' y => ?_⟩
    obtain ⟨T, x', y', rfl, hT, rfl, f1, f2⟩ := y
    have ht : (upd H T (.tup [x', y'])) T = some (.tup [x', y']) := upd_same
    exact ⟨T, _, rfl, st_of ht, rfl, _, _, rfl, _, _, rfl, rfl, hw x' y', yesT (hs i x' y' T H (f1 xs qx) (f2 ys qy) p hT)⟩
  · have e : i = xs.length := by omega
    subst e
    exact .inl ⟨⟨xs, ys, qx, qy, Or.inl (Nat.le_refl _)⟩, hd H p⟩
theorem zip_at {α β : Type} {xs : List α} {ys : List β} {i : Nat} {x : α} {y : β} (hx : xs[i]? = some x) (hy : ys[i]? = some y) : (xs.zip ys)[i]? = some (x, y) := by
  rw [List.getElem?_zip_eq_some]
  exact ⟨hx, hy⟩
end CH
end

section
set_option Elab.async false
set_option linter.all false
set_option maxRecDepth 100000
set_option maxHeartbeats 4000000
/-! meetings seated one behind another, by prices and rents -/
namespace CH
open PySem PySem.Spec PyProof.Rows L2
abbrev Rows := List (List Int × Option Int)
def canAt (rows : Rows) (i : Nat) : List Int := (rows.getD i ([], none)).1
def cost (rows : Rows) (i : Nat) (h : Int) : Int := jumpZ (rows.getD i ([], none)).2 h
def pr (ps : List Int) (i : Nat) : Int := ps.getD i 0
def rn (rs : List Int) (h : Int) : Int := rs.getD h.toNat 0
/-- rows as they are told -/
structure RowsOk (rows : Rows) : Prop where
  nd : ∀ i, (canAt rows i).Nodup
  in_ : ∀ i, ∀ h ∈ canAt rows i, 0 ≤ h ∧ h ≤ 11
/-- k meetings are seated -/
structure Seated (rows : Rows) (k : Nat) (hs : List (Option Int)) (ps rs : List Int) (hf : Int → Option Nat) : Prop where
  l1 : hs.length = rows.length
  l2 : ps.length = rows.length
  l3 : rs.length = 12
  at_ : ∀ i, i < k → ∃ h, hs[i]? = some (some h) ∧ h ∈ canAt rows i ∧ pr ps i + rn rs h = cost rows i h
  rest : ∀ i, k ≤ i → i < rows.length → hs[i]? = some none
  hold : ∀ h i, hf h = some i ↔ hs[i]? = some (some h)
  bound : ∀ i, i < rows.length → ∀ h ∈ canAt rows i, pr ps i + rn rs h ≤ cost rows i h
  neg : ∀ h : Int, rn rs h ≤ 0
  free : ∀ h : Int, 0 ≤ h → h ≤ 11 → hf h = none → rn rs h = 0
/-- the search for a seat: those who ask, hours reached and from whom -/
structure Search (rows : Rows) (k : Nat) (hs : List (Option Int)) (ps rs : List Int) (hf : Int → Option Nat) (as : List Nat) (rk : List (Int × Nat)) : Prop where
  st : Seated rows k hs ps rs hf
  kn : k < rows.length
  len : as.length = rk.length + 1
  head : as[0]? = some k
  held : ∀ (j : Nat) (p : Int × Nat), rk[j]? = some p → ∃ i, as[j + 1]? = some i ∧ hf p.1 = some i
  nd : (rk.map (·.1)).Nodup
  from_ : ∀ (j : Nat) (p : Int × Nat), rk[j]? = some p → ∃ q, q ≤ j ∧ as[q]? = some p.2 ∧ p.1 ∈ canAt rows p.2 ∧ pr ps p.2 + rn rs p.1 = cost rows p.2 p.1
theorem Search.lt {rows : Rows} {k : Nat} {hs : List (Option Int)} {ps rs : List Int} {hf : Int → Option Nat} {as : List Nat} {rk : List (Int × Nat)} (S : Search rows k hs ps rs hf as rk) : ∀ i ∈ as, i < rows.length := by
  intro i hi
  obtain ⟨j, hj⟩ := List.mem_iff_getElem?.mp hi
  cases j with
  | zero =>
    rw [S.head] at hj
    have := S.kn
    have e := Option.some.inj hj
    omega
  | succ j =>
    have hl := (List.getElem?_eq_some_iff.mp hj).1
    have hjr : j < rk.length := by have := S.len; omega
    obtain ⟨i', h1, h2⟩ := S.held j rk[j] (List.getElem?_eq_getElem hjr)
    rw [hj] at h1
    have e := Option.some.inj h1
    have h3 := (S.st.hold _ _).mp h2
    have := (List.getElem?_eq_some_iff.mp h3).1
    have := S.st.l1
    omega
theorem Search.asnd {rows : Rows} {k : Nat} {hs : List (Option Int)} {ps rs : List Int} {hf : Int → Option Nat} {as : List Nat} {rk : List (Int × Nat)} (S : Search rows k hs ps rs hf as rk) : as.Nodup := by
  refine List.pairwise_iff_getElem.mpr fun i j hi hj hij e => ?_
  cases j with
  | zero => omega
  | succ j =>
    have hjr : j < rk.length := by have := S.len; omega
    obtain ⟨b, h1, h2⟩ := S.held j rk[j] (List.getElem?_eq_getElem hjr)
    have hb : b = as[j + 1] := by
      rw [List.getElem?_eq_getElem hj] at h1
      exact (Option.some.inj h1).symm
    have h3 := (S.st.hold _ _).mp h2
    cases i with
    | zero =>
      have h0 : as[0] = k := by
        have := S.head
        rw [List.getElem?_eq_getElem hi] at this
        exact Option.some.inj this
      have h4 := S.st.rest k (Nat.le_refl _) S.kn
      rw [hb, ← e, h0, h4] at h3
      cases h3
    | succ i =>
      have hir : i < rk.length := by have := S.len; omega
      obtain ⟨a, g1, g2⟩ := S.held i rk[i] (List.getElem?_eq_getElem hir)
      have ha : a = as[i + 1] := by
        rw [List.getElem?_eq_getElem hi] at g1
        exact (Option.some.inj g1).symm
      have g3 := (S.st.hold _ _).mp g2
      rw [ha, e, ← hb, h3] at g3
      have e2 : (rk[i]).1 = (rk[j]).1 := (Option.some.inj (Option.some.inj g3)).symm
      have n1 : (rk.map (·.1))[i]? = (rk.map (·.1))[j]? := by
        rw [List.getElem?_map, List.getElem?_map, List.getElem?_eq_getElem hir, List.getElem?_eq_getElem hjr]
        exact congrArg some e2
      have := (List.getElem?_inj (by rw [List.length_map]; exact hir) S.nd).mp n1
      omega
/-- the holder of an hour reached asks, and the hour of one who asks and sits is reached -/
theorem Search.asks {rows : Rows} {k : Nat} {hs : List (Option Int)} {ps rs : List Int} {hf : Int → Option Nat} {as : List Nat} {rk : List (Int × Nat)} (S : Search rows k hs ps rs hf as rk) {i : Nat} {h : Int} (hh : hs[i]? = some (some h)) : i ∈ as ↔ h ∈ rk.map (·.1) := by
  constructor
  · intro hi
    obtain ⟨j, hj⟩ := List.mem_iff_getElem?.mp hi
    cases j with
    | zero =>
      rw [S.head] at hj
      have e := Option.some.inj hj
      have h4 := S.st.rest k (Nat.le_refl _) S.kn
      rw [e, hh] at h4
      cases h4
    | succ j =>
      have hl := (List.getElem?_eq_some_iff.mp hj).1
      have hjr : j < rk.length := by have := S.len; omega
      obtain ⟨b, h1, h2⟩ := S.held j rk[j] (List.getElem?_eq_getElem hjr)
      rw [hj] at h1
      have e := Option.some.inj h1
      have h3 := (S.st.hold _ _).mp h2
      rw [← e, hh] at h3
      rw [Option.some.inj (Option.some.inj h3)]
      exact List.mem_map.mpr ⟨_, List.getElem_mem hjr, rfl⟩
  · intro hm
    obtain ⟨p, hp, rfl⟩ := List.mem_map.mp hm
    obtain ⟨j, hj⟩ := List.mem_iff_getElem?.mp hp
    obtain ⟨b, h1, h2⟩ := S.held j p hj
    have h3 := (S.st.hold p.1 i).mpr hh
    rw [h2] at h3
    rw [← Option.some.inj h3]
    exact List.mem_of_getElem? h1
/-- a newcomer asks first -/
theorem Seated.start {rows : Rows} {k : Nat} {hs : List (Option Int)} {ps rs : List Int} {hf : Int → Option Nat} (S : Seated rows k hs ps rs hf) (hk : k < rows.length) : Search rows k hs ps rs hf [k] [] :=
  ⟨S, hk, rfl, rfl, fun j p h => by simp at h, List.nodup_nil, fun j p h => by simp at h⟩
/-- prices raised, rents lowered -/
theorem Search.raise {rows : Rows} {k : Nat} {hs : List (Option Int)} {ps rs ps' rs' : List Int} {hf : Int → Option Nat} {as : List Nat} {rk : List (Int × Nat)} {x : Int} (ok : RowsOk rows) (S : Search rows k hs ps rs hf as rk) (x0 : 0 ≤ x) (hx : ∀ i ∈ as, ∀ h ∈ canAt rows i, h ∉ rk.map (·.1) → x ≤ cost rows i h - pr ps i - rn rs h)
    (lp : ps'.length = ps.length) (lr : rs'.length = rs.length) (ep : ∀ i, i < rows.length → pr ps' i = pr ps i + if i ∈ as then x else 0) (er : ∀ h : Int, 0 ≤ h → rn rs' h = rn rs h - if h ∈ rk.map (·.1) then x else 0) (en : ∀ h : Int, h < 0 → rn rs' h ≤ 0) :
    Search rows k hs ps' rs' hf as rk := by
  have inH : ∀ p ∈ rk, 0 ≤ p.1 ∧ p.1 ≤ 11 := fun p hp => by
    obtain ⟨j, hj⟩ := List.mem_iff_getElem?.mp hp
    obtain ⟨q, _, _, h3, _⟩ := S.from_ j p hj
    exact ok.in_ _ _ h3
  refine ⟨⟨S.st.l1, lp.trans S.st.l2, lr.trans S.st.l3, fun i hi => ?_, S.st.rest, S.st.hold, fun i hi h hh => ?_, fun h => ?_, fun h h0 h1 hn => ?_⟩, S.kn, S.len, S.head, S.held, S.nd, fun j p hj => ?_⟩
  · obtain ⟨h, h1, h2, h3⟩ := S.st.at_ i hi
    refine ⟨h, h1, h2, ?_⟩
    have hb := ok.in_ i h h2
    have hil : i < rows.length := by have := S.kn; omega
    rw [ep i hil, er h hb.1]
    have e := S.asks h1
    by_cases z : i ∈ as
    · rw [if_pos z, if_pos (e.mp z)]
      omega
    · rw [if_neg z, if_neg fun q => z (e.mpr q)]
      omega
  · have hb := ok.in_ i h hh
    have b0 := S.st.bound i hi h hh
    rw [ep i hi, er h hb.1]
    by_cases z : i ∈ as
    · rw [if_pos z]
      by_cases z2 : h ∈ rk.map (·.1)
      · rw [if_pos z2]
        omega
      · rw [if_neg z2]
        have := hx i z h hh z2
        omega
    · rw [if_neg z]
      by_cases z2 : h ∈ rk.map (·.1)
      · rw [if_pos z2]
        omega
      · rw [if_neg z2]
        omega
  · by_cases h0 : 0 ≤ h
    · have := S.st.neg h
      rw [er h h0]
      by_cases z2 : h ∈ rk.map (·.1)
      · rw [if_pos z2]
        omega
      · rw [if_neg z2]
        omega
    · exact en h (by omega)
  · have hnr : h ∉ rk.map (·.1) := fun z => by
      obtain ⟨p, hp, rfl⟩ := List.mem_map.mp z
      obtain ⟨j, hj⟩ := List.mem_iff_getElem?.mp hp
      obtain ⟨b, _, h2⟩ := S.held j p hj
      rw [hn] at h2
      cases h2
    rw [er h h0, if_neg hnr, S.st.free h h0 h1 hn]
    rfl
  · obtain ⟨q, h1, h2, h3, h4⟩ := S.from_ j p hj
    refine ⟨q, h1, h2, h3, ?_⟩
    have hp := List.mem_of_getElem? hj
    have hil := S.lt p.2 (List.mem_of_getElem? h2)
    rw [ep p.2 hil, er p.1 (inH p hp).1, if_pos (List.mem_of_getElem? h2), if_pos (List.mem_map.mpr ⟨p, hp, rfl⟩)]
    omega
/-- one hour more is reached, its holder asks, too -/
theorem Search.more {rows : Rows} {k : Nat} {hs : List (Option Int)} {ps rs : List Int} {hf : Int → Option Nat} {as : List Nat} {rk : List (Int × Nat)} {h : Int} {m i : Nat} (S : Search rows k hs ps rs hf as rk) (hm : m ∈ as) (hc : h ∈ canAt rows m) (hn : h ∉ rk.map (·.1)) (ht : pr ps m + rn rs h = cost rows m h) (hh : hf h = some i) :
    Search rows k hs ps rs hf (as ++ [i]) (rk ++ [(h, m)]) := by
  obtain ⟨q, hq⟩ := List.mem_iff_getElem?.mp hm
  have hql := (List.getElem?_eq_some_iff.mp hq).1
  have sp : ∀ j p, (rk ++ [(h, m)])[j]? = some p → (j < rk.length ∧ rk[j]? = some p) ∨ (j = rk.length ∧ p = (h, m)) := fun j p hj => by
    by_cases z : j < rk.length
    · rw [List.getElem?_append_left z] at hj
      exact .inl ⟨z, hj⟩
    · rw [List.getElem?_append_right (by omega)] at hj
      have l := (List.getElem?_eq_some_iff.mp hj).1
      have e : j = rk.length := by
        rw [List.length_singleton] at l
        omega
      subst e
      rw [Nat.sub_self] at hj
      exact .inr ⟨rfl, (Option.some.inj hj).symm⟩
  refine ⟨S.st, S.kn, ?_, ?_, fun j p hj => ?_, ?_, fun j p hj => ?_⟩
  · rw [List.length_append, List.length_append, S.len] <;> rfl
  · rw [List.getElem?_append_left (by have := S.len; omega)]
    exact S.head
  · rcases sp j p hj with ⟨hl, hj⟩ | ⟨rfl, rfl⟩
    · obtain ⟨b, h1, h2⟩ := S.held j p hj
      exact ⟨b, by rw [List.getElem?_append_left (by have := S.len; omega)]; exact h1, h2⟩
    · exact ⟨i, by rw [List.getElem?_append_right (by have := S.len; omega), S.len, Nat.sub_self] <;> rfl, hh⟩
  · rw [List.map_append]
    refine List.nodup_append.mpr ⟨S.nd, List.nodup_cons.mpr ⟨by simp, List.nodup_nil⟩, fun a ha b hb e => ?_⟩
    rw [List.mem_singleton.mp hb] at e
    have e' : a = h := e
    rw [e'] at ha
    exact hn ha
  · rcases sp j p hj with ⟨hl, hj⟩ | ⟨rfl, rfl⟩
    · obtain ⟨q', h1, h2, h3, h4⟩ := S.from_ j p hj
      exact ⟨q', h1, by rw [List.getElem?_append_left (by have := S.len; omega)]; exact h2, h3, h4⟩
    · exact ⟨q, by have := S.len; omega, by rw [List.getElem?_append_left hql]; exact hq, hc, ht⟩
/-- on the way of handing on: cur is held by none; those who asked ahead of the j-th hour reached sit as ahead -/
structure Hand (rows : Rows) (k : Nat) (hs0 : List (Option Int)) (hf0 : Int → Option Nat) (ps rs : List Int) (as : List Nat) (rk : List (Int × Nat)) (hs : List (Option Int)) (hf : Int → Option Nat) (cur : Option Int) (j : Nat) : Prop where
  l1 : hs.length = rows.length
  rest : ∀ i : Nat, k < i → i < rows.length → hs[i]? = some none
  at_ : ∀ (i : Nat) (h : Int), hs[i]? = some (some h) → i ≤ k ∧ h ∈ canAt rows i ∧ pr ps i + rn rs h = cost rows i h
  none_ : ∀ i : Nat, i < k → ∃ h : Int, hs[i]? = some (some h)
  inj : ∀ (a b : Nat) (h : Int), hs[a]? = some (some h) → hs[b]? = some (some h) → a = b
  off : ∀ (h : Int) (i : Nat), cur = some h → hs[i]? ≠ some (some h)
  hold : ∀ (h : Int) (i : Nat), cur ≠ some h → (hf h = some i ↔ hs[i]? = some (some h))
  ahead : cur ≠ none → ∀ (q : Nat), q ≤ j → ∀ i : Nat, as[q]? = some i → hs[i]? = hs0[i]?
  stop : cur = none → ∃ h : Int, hs[k]? = some (some h)
  cur_ : ∀ h : Int, cur = some h → ∃ m : Nat, rk[j]? = some (h, m)
  dom : ∀ h : Int, hf h = none → hf0 h = none
/-- what the way leans on -/
structure Way (rows : Rows) (k : Nat) (hs0 : List (Option Int)) (ps rs : List Int) (as : List Nat) (rk : List (Int × Nat)) : Prop where
  kn : k < rows.length
  nd : as.Nodup
  keys : (rk.map (·.1)).Nodup
  le : ∀ i ∈ as, i ≤ k
  head : as[0]? = some k ∧ hs0[k]? = some none
  from_ : ∀ (j : Nat) (p : Int × Nat), rk[j]? = some p → ∃ q, q ≤ j ∧ as[q]? = some p.2 ∧ p.1 ∈ canAt rows p.2 ∧ pr ps p.2 + rn rs p.1 = cost rows p.2 p.1
  held : ∀ (q i : Nat), as[q + 1]? = some i → ∃ p : Int × Nat, rk[q]? = some p ∧ hs0[i]? = some (some p.1)
theorem Search.le {rows : Rows} {k : Nat} {hs : List (Option Int)} {ps rs : List Int} {hf : Int → Option Nat} {as : List Nat} {rk : List (Int × Nat)} (S : Search rows k hs ps rs hf as rk) {i : Nat} {h : Int} (e : hs[i]? = some (some h)) : i < k := by
  refine Nat.lt_of_not_le fun z => ?_
  have hl := (List.getElem?_eq_some_iff.mp e).1
  have l1 := S.st.l1
  have := S.st.rest i z (by omega)
  rw [e] at this
  cases this
/-- handing on begins -/
theorem Search.hand {rows : Rows} {k : Nat} {hs : List (Option Int)} {ps rs : List Int} {hf : Int → Option Nat} {as : List Nat} {rk : List (Int × Nat)} {h : Int} {m : Nat} (S : Search rows k hs ps rs hf as rk) (hh : hf h = none) :
    Hand rows k hs hf ps rs as (rk ++ [(h, m)]) hs hf (some h) rk.length := by
  refine ⟨S.st.l1, fun i h1 h2 => S.st.rest i (by omega) h2, fun i h' e => ?_, fun i hi => ?_, fun a b h' e1 e2 => ?_, fun h' i e z => ?_, fun h' i _ => S.st.hold h' i, fun _ q _ i _ => rfl, fun z => (by cases z), fun h' e => ?_, fun _ z => z⟩
  · have hik := S.le e
    obtain ⟨h2, e2, e3, e4⟩ := S.st.at_ i hik
    rw [e] at e2
    have := Option.some.inj (Option.some.inj e2)
    subst this
    exact ⟨by omega, e3, e4⟩
  · obtain ⟨h2, e2, _⟩ := S.st.at_ i hi
    exact ⟨h2, e2⟩
  · have := (S.st.hold h' a).mpr e1
    have h2 := (S.st.hold h' b).mpr e2
    rw [this] at h2
    exact Option.some.inj h2
  · have e' := Option.some.inj e
    subst e'
    have := (S.st.hold h i).mpr z
    rw [hh] at this
    cases this
  · have e' := Option.some.inj e
    subst e'
    exact ⟨m, by rw [List.getElem?_append_right (Nat.le_refl _), Nat.sub_self] <;> rfl⟩
theorem Search.way {rows : Rows} {k : Nat} {hs : List (Option Int)} {ps rs : List Int} {hf : Int → Option Nat} {as : List Nat} {rk : List (Int × Nat)} {h : Int} {m : Nat} (S : Search rows k hs ps rs hf as rk) (hm : m ∈ as) (hc : h ∈ canAt rows m) (hn : h ∉ rk.map (·.1)) (ht : pr ps m + rn rs h = cost rows m h) : Way rows k hs ps rs as (rk ++ [(h, m)]) := by
  obtain ⟨q, hq⟩ := List.mem_iff_getElem?.mp hm
  have hql := (List.getElem?_eq_some_iff.mp hq).1
  have at1 : ∀ {q i : Nat}, as[q + 1]? = some i → ∃ p : Int × Nat, rk[q]? = some p ∧ hs[i]? = some (some p.1) := fun {q i} hi => by
    have hl := (List.getElem?_eq_some_iff.mp hi).1
    have hjr : q < rk.length := by have := S.len; omega
    obtain ⟨b, h1, h2⟩ := S.held q rk[q] (List.getElem?_eq_getElem hjr)
    rw [hi] at h1
    rw [← Option.some.inj h1] at h2
    exact ⟨_, List.getElem?_eq_getElem hjr, (S.st.hold _ _).mp h2⟩
  refine ⟨S.kn, S.asnd, ?_, fun i hi => ?_, ⟨S.head, S.st.rest k (Nat.le_refl _) S.kn⟩, fun j p hj => ?_, fun q i hi => ?_⟩
  · rw [List.map_append]
    refine List.nodup_append.mpr ⟨S.nd, List.nodup_cons.mpr ⟨by simp, List.nodup_nil⟩, fun a ha b hb e => ?_⟩
    rw [List.mem_singleton.mp hb] at e
    have e' : a = h := e
    rw [e'] at ha
    exact hn ha
  · obtain ⟨j, hj⟩ := List.mem_iff_getElem?.mp hi
    cases j with
    | zero =>
      rw [S.head] at hj
      have := Option.some.inj hj
      omega
    | succ j =>
      obtain ⟨p, _, h2⟩ := at1 hj
      have := S.le h2
      omega
  · by_cases z : j < rk.length
    · rw [List.getElem?_append_left z] at hj
      exact S.from_ j p hj
    · rw [List.getElem?_append_right (by omega)] at hj
      have l := (List.getElem?_eq_some_iff.mp hj).1
      have e : j = rk.length := by
        rw [List.length_singleton] at l
        omega
      subst e
      rw [Nat.sub_self] at hj
      have e2 := (Option.some.inj hj).symm
      subst e2
      exact ⟨q, by have := S.len; omega, hq, hc, ht⟩
  · obtain ⟨p, h1, h2⟩ := at1 hi
    have hl := (List.getElem?_eq_some_iff.mp h1).1
    exact ⟨p, by rw [List.getElem?_append_left hl]; exact h1, h2⟩
/-- one is handed its hour -/
theorem Hand.step {rows : Rows} {k : Nat} {hs0 hs : List (Option Int)} {hf0 hf : Int → Option Nat} {ps rs : List Int} {as : List Nat} {rk : List (Int × Nat)} {h : Int} {m j : Nat} (W : Way rows k hs0 ps rs as rk) (S : Hand rows k hs0 hf0 ps rs as rk hs hf (some h) j) (hm : rk[j]? = some (h, m)) :
    m < rows.length ∧ ∃ (left : Option Int) (j' : Nat), hs[m]? = some left ∧ (left ≠ none → j' < j) ∧ Hand rows k hs0 hf0 ps rs as rk (hs.set m (some h)) (fun x => if x = h then some m else hf x) left j' := by
  obtain ⟨q, q1, q2, q3, q4⟩ := W.from_ j (h, m) hm
  have hmk := W.le m (List.mem_of_getElem? q2)
  have hml : m < rows.length := by have := W.kn; omega
  have hml2 : m < hs.length := by rw [S.l1]; exact hml
  have hah := S.ahead (by simp) q q1 m q2
  have off := fun i => S.off h i rfl
  have sm : (hs.set m (some h))[m]? = some (some h) := by rw [List.getElem?_set_self hml2]
  have sn : ∀ i : Nat, i ≠ m → (hs.set m (some h))[i]? = hs[i]? := fun i n => by rw [List.getElem?_set_ne (fun z => n z.symm)]
  -- what m had
  obtain ⟨left, hleft⟩ : ∃ left, hs[m]? = some left := ⟨_, List.getElem?_eq_getElem hml2⟩
  have key : ∀ j' : Nat, (left ≠ none → j' < j) → (left ≠ none → ∀ (q : Nat), q ≤ j' → ∀ i : Nat, as[q]? = some i → i ≠ m) → (left = none → m = k) → (∀ h' : Int, left = some h' → ∃ m' : Nat, rk[j']? = some (h', m')) →
      Hand rows k hs0 hf0 ps rs as rk (hs.set m (some h)) (fun x => if x = h then some m else hf x) left j' := fun j' lj ne nk cu => by
    refine ⟨by rw [List.length_set]; exact S.l1, fun i h1 h2 => ?_, fun i x e => ?_, fun i hi => ?_, fun a b x e1 e2 => ?_, fun x i e z => ?_, fun x i nx => ?_, fun nl q' hq' i hi => ?_, fun z => ?_, cu, fun x hx => ?_⟩
    · rw [sn i (by omega)]
      exact S.rest i h1 h2
    · by_cases z : i = m
      · subst z
        rw [sm] at e
        have := Option.some.inj (Option.some.inj e)
        subst this
        exact ⟨hmk, q3, q4⟩
      · rw [sn i z] at e
        exact S.at_ i x e
    · by_cases z : i = m
      · subst z
        exact ⟨h, sm⟩
      · rw [sn i z]
        exact S.none_ i hi
    · by_cases za : a = m
      · by_cases zb : b = m
        · rw [za, zb]
        · rw [za, sm] at e1
          have := Option.some.inj (Option.some.inj e1)
          subst this
          rw [sn b zb] at e2
          exact absurd e2 (off b)
      · by_cases zb : b = m
        · rw [zb, sm] at e2
          have := Option.some.inj (Option.some.inj e2)
          subst this
          rw [sn a za] at e1
          exact absurd e1 (off a)
        · rw [sn a za] at e1
          rw [sn b zb] at e2
          exact S.inj a b x e1 e2
    · subst e
      by_cases zi : i = m
      · subst zi
        rw [sm] at z
        have := Option.some.inj (Option.some.inj z)
        subst this
        exact off i hleft
      · rw [sn i zi] at z
        exact zi (S.inj i m x z hleft)
    · show (if x = h then some m else hf x) = some i ↔ _
      by_cases zx : x = h
      · subst zx
        rw [if_pos rfl]
        constructor
        · intro z
          rw [← Option.some.inj z]
          exact sm
        · intro z
          by_cases zi : i = m
          · rw [zi]
          · rw [sn i zi] at z
            exact absurd z (off i)
      · rw [if_neg zx]
        have o := S.hold x i (fun z => zx (Option.some.inj z).symm)
        by_cases zi : i = m
        · subst zi
          rw [o, sm, hleft]
          constructor
          · intro z
            exact absurd (Option.some.inj z) nx
          · intro z
            exact absurd (Option.some.inj (Option.some.inj z)).symm zx
        · rw [o, sn i zi]
    · have nm := ne nl q' hq' i hi
      rw [sn i nm]
      exact S.ahead (by simp) q' (by have := lj nl; omega) i hi
    · rw [← nk z]
      exact ⟨h, sm⟩
    · have hx : (if x = h then some m else hf x) = none := hx
      by_cases zx : x = h
      · rw [if_pos zx] at hx
        cases hx
      · rw [if_neg zx] at hx
        exact S.dom x hx
  refine ⟨hml, left, ?_⟩
  cases q with
  | zero =>
    have e : m = k := by
      rw [W.head.1] at q2
      exact (Option.some.inj q2).symm
    have el : left = none := by
      rw [hleft, e, W.head.2] at hah
      exact Option.some.inj hah
    exact ⟨0, hleft, fun z => absurd el z, key 0 (fun z => absurd el z) (fun z => absurd el z) (fun _ => e) (fun h' z => by rw [el] at z; cases z)⟩
  | succ q' =>
    obtain ⟨p, p1, p2⟩ := W.held q' m q2
    have el : left = some p.1 := by
      rw [hleft, p2] at hah
      exact Option.some.inj hah
    refine ⟨q', hleft, fun _ => by omega, key q' (fun _ => by omega) (fun _ q2' hq2 i hi e => ?_) (fun z => by rw [el] at z; cases z) (fun h' z => ?_)⟩
    · rw [e] at hi
      have hl2 := (List.getElem?_eq_some_iff.mp hi).1
      have := (List.getElem?_inj hl2 W.nd).mp (hi.trans q2.symm)
      omega
    · rw [el] at z
      rw [← Option.some.inj z]
      exact ⟨p.2, p1⟩
/-- all are handed theirs: one more is seated -/
theorem Hand.done {rows : Rows} {k : Nat} {hs0 hs : List (Option Int)} {hf0 hf : Int → Option Nat} {ps rs : List Int} {as : List Nat} {rk : List (Int × Nat)} {j : Nat} (S0 : Seated rows k hs0 ps rs hf0) (S : Hand rows k hs0 hf0 ps rs as rk hs hf none j) : Seated rows (k + 1) hs ps rs hf := by
  refine ⟨S.l1, S0.l2, S0.l3, fun i hi => ?_, fun i h1 h2 => S.rest i (by omega) h2, fun h i => S.hold h i (by simp), S0.bound, S0.neg, fun h h0 h1 hn => S0.free h h0 h1 (S.dom h hn)⟩
  obtain ⟨h, e⟩ : ∃ h : Int, hs[i]? = some (some h) := by
    by_cases z : i = k
    · rw [z]
      exact S.stop rfl
    · exact S.none_ i (by omega)
  obtain ⟨_, e2, e3⟩ := S.at_ i h e
  exact ⟨h, e, e2, e3⟩
end CH
end

section
set_option Elab.async false
set_option linter.all false
set_option maxRecDepth 100000
set_option maxHeartbeats 4000000
/-! kin: a word more, needed ones fewer, enough fewer -/
namespace CH
open PySem PySem.Spec PyProof.Rows L2
theorem come_mono {ps : List Int} {cs : List Str} {f g : Int → Str} (h : ∀ x, f x ∈ cs → g x ∈ cs) : ∀ x ∈ comeL ps cs f, x ∈ comeL ps cs g := fun x hx => by
  obtain ⟨a, b⟩ := List.mem_filter.mp hx
  exact List.mem_filter.mpr ⟨a, decide_eq_true (h x (of_decide_eq_true b))⟩
theorem canB_mono {m n : Mt} {cs : List Str} {f g : Int → Str} (hp : n.ps = m.ps) (he : n.e ≤ m.e) (hn : ∀ x ∈ n.nds, x ∈ m.nds) (h : ∀ x, f x ∈ cs → g x ∈ cs) (z : canB m cs f = true) : canB n cs g = true := by
  unfold canB at z ⊢
  rw [Bool.and_eq_true] at z ⊢
  obtain ⟨z1, z2⟩ := z
  have z1 := of_decide_eq_true z1
  rw [hp]
  have l : (comeL m.ps cs f).length ≤ (comeL m.ps cs g).length := filter_le (fun x e => decide_eq_true (h x (of_decide_eq_true e))) _
  refine ⟨decide_eq_true (by omega), List.all_eq_true.mpr fun x hx => decide_eq_true (come_mono h x ?_)⟩
  exact of_decide_eq_true (List.all_eq_true.mp z2 x (hn x hx))
theorem hoursL_at {m n : Mt} {cs : List Str} {F G : Int → Int → Str} {o : Int} (hp : n.ps = m.ps) (he : n.e ≤ m.e) (hn : ∀ x ∈ n.nds, x ∈ m.nds) (h : ∀ x, F x o ∈ cs → G x o ∈ cs) (z : o ∈ hoursL m cs F) : o ∈ hoursL n cs G := by
  obtain ⟨i, hi, rfl⟩ := List.mem_map.mp z
  obtain ⟨a, b⟩ := List.mem_filter.mp hi
  exact List.mem_map.mpr ⟨i, List.mem_filter.mpr ⟨a, canB_mono hp he hn h b⟩, rfl⟩
theorem hoursL_congr {m : Mt} {cs ds : List Str} {F G : Int → Int → Str} (h : ∀ x o, decide (F x o ∈ cs) = decide (G x o ∈ ds)) : hoursL m cs F = hoursL m ds G := by
  unfold hoursL canB
  have e : ∀ o : Int, comeL m.ps cs (fun x => F x o) = comeL m.ps ds fun x => G x o := fun o => comeL_congr fun x => h x o
  congr 1
  refine List.filter_congr fun o _ => ?_
  rw [e]
/-- a word behind all others counts -/
theorem ansF_late {ws : List Wd} {w : Wd} (h : ∀ x ∈ ws, x.c < w.c) (p o : Int) : ansF (ws ++ [w]) p o = if w.p = p ∧ w.o = o then w.a else ansF ws p o := by
  unfold ansF ansW
  rw [bestW_snoc]
  have pl : pleO (bestW ws p o) w := by
    have b := bestW_is p o ws
    cases e : bestW ws p o with
    | none => exact trivial
    | some x =>
      rw [e] at b
      exact .inl (h x b.m)
  by_cases g : w.p = p ∧ w.o = o
  · rw [if_pos ⟨g.1, g.2, pl⟩, if_pos g]
    rfl
  · rw [if_neg fun z => g ⟨z.1, z.2.1⟩, if_neg g]
/-- a word before all others counts where there is none -/
theorem ansF_early {ws : List Wd} {w : Wd} (h : ∀ x ∈ ws, w.c < x.c) (k : ∃ x ∈ ws, x.p = w.p ∧ x.o = w.o) : ansF (ws ++ [w]) = ansF ws := by
  funext p o
  unfold ansF ansW
  rw [bestW_snoc]
  by_cases g : w.p = p ∧ w.o = o
  · obtain ⟨x, hx, e1, e2⟩ := k
    have b := bestW_is p o ws
    cases e : bestW ws p o with
    | none =>
      rw [e] at b
      exact absurd ⟨e1.trans g.1, e2.trans g.2⟩ (b x hx)
    | some y =>
      rw [e] at b
      have := h y b.m
      rw [if_neg fun z => ?_]
      have := z.2.2
      unfold pleO ple at this
      dsimp only at this
      omega
  · rw [if_neg fun z => g ⟨z.1, z.2.1⟩]
theorem alike_snoc {ws : List Wd} {w : Wd} (al : Alike ws) (h : ∀ x ∈ ws, x.c ≠ w.c) : Alike (ws ++ [w]) := by
  intro a ha b hb e1 e2
  rcases List.mem_append.mp ha with ha | ha
  · rcases List.mem_append.mp hb with hb | hb
    · exact al a ha b hb e1 e2
    · rw [List.mem_singleton.mp hb] at e1
      exact absurd e1 (h a ha)
  · rcases List.mem_append.mp hb with hb | hb
    · rw [List.mem_singleton.mp ha] at e1
      exact absurd e1.symm (h b hb)
    · rw [List.mem_singleton.mp ha, List.mem_singleton.mp hb]
theorem late_yes {m : Mt} {ws : List Wd} {c h p o : Int} (lt : ∀ x ∈ ws, x.c < c) : ((hoursL m ["yes"] (ansF ws)).all fun x => decide (x ∈ hoursL m ["yes"] (ansF (ws ++ [⟨c, h, p, o, "yes"⟩])))) = true :=
  List.all_eq_true.mpr fun y hy => decide_eq_true (hoursL_at rfl (Int.le_refl _) (fun _ z => z) (fun x z => by rw [ansF_late lt]; split <;> first | exact z | exact List.mem_cons_self) hy)
theorem late_no {m : Mt} {ws : List Wd} {c h p o : Int} (lt : ∀ x ∈ ws, x.c < c) : ((hoursL m ["yes"] (ansF (ws ++ [⟨c, h, p, o, "no"⟩]))).all fun x => decide (x ∈ hoursL m ["yes"] (ansF ws))) = true :=
  List.all_eq_true.mpr fun y hy => decide_eq_true (hoursL_at rfl (Int.le_refl _) (fun _ z => z) (fun x z => by rw [ansF_late lt] at z; split at z <;> first | exact z | exact absurd (show ("no" : Str) ∈ (["yes"] : List Str) from z) (by decide)) hy)
theorem late_one {m : Mt} {ws : List Wd} {c h p o : Int} (lt : ∀ x ∈ ws, x.c < c) : ((hoursL m ["yes"] (ansF (ws ++ [⟨c, h, p, o, "yes"⟩]))).all fun x => decide (x ∈ hoursL m ["yes"] (ansF ws) ++ [o])) = true :=
  List.all_eq_true.mpr fun y hy => decide_eq_true (by
    by_cases e : o = y
    · rw [e]
      exact List.mem_append.mpr (.inr List.mem_cons_self)
    · refine List.mem_append.mpr (.inl (hoursL_at rfl (Int.le_refl _) (fun _ z => z) (fun x z => ?_) hy))
      rw [ansF_late lt, if_neg fun z => e z.2] at z
      exact z)
theorem late_maybe {m : Mt} {ws : List Wd} {c h p o : Int} (lt : ∀ x ∈ ws, x.c < c) : hoursL m ["yes"] (ansF (ws ++ [⟨c, h, p, o, "maybe"⟩])) = hoursL m ["yes"] (ansF (ws ++ [⟨c, h, p, o, "no"⟩])) := hoursL_congr fun x y => by
  rw [ansF_late lt, ansF_late lt]
  dsimp only
  split
  · decide
  · rfl
theorem late_sure {m : Mt} {ws : List Wd} {c h p o : Int} (lt : ∀ x ∈ ws, x.c < c) : hoursL m ["yes", "maybe"] (ansF (ws ++ [⟨c, h, p, o, "maybe"⟩])) = hoursL m ["yes", "maybe"] (ansF (ws ++ [⟨c, h, p, o, "yes"⟩])) := hoursL_congr fun x y => by
  rw [ansF_late lt, ansF_late lt]
  dsimp only
  split
  · decide
  · rfl
end CH
end

section
set_option Elab.async false
set_option linter.all false
set_option maxRecDepth 100000
set_option maxHeartbeats 4000000
/-! all seated: told as moved -/
namespace CH
open PySem PySem.Spec PyProof.Rows L2
theorem perm_sum {xs ys : List Int} (p : xs.Perm ys) : xs.sum = ys.sum := by
  induction p with
  | nil => rfl
  | cons x _ ih => rw [List.sum_cons, List.sum_cons, ih]
  | swap x y l =>
    rw [List.sum_cons, List.sum_cons, List.sum_cons, List.sum_cons]
    omega
  | trans _ _ a b => exact a.trans b
/-- what is nothing off zs sums over zs as over all -/
theorem sum_off {f : Int → Int} : ∀ (L zs : List Int), L.Nodup → zs.Nodup → (∀ z ∈ zs, z ∈ L) → (∀ h ∈ L, h ∉ zs → f h = 0) → (zs.map f).sum = (L.map f).sum
  | [], zs, _, _, s, _ => by
    cases zs with
    | nil => rfl
    | cons z zs => exact absurd (s z List.mem_cons_self) (by simp)
  | h :: L, zs, nL, nz, s, o => by
    obtain ⟨n1, n2⟩ := List.nodup_cons.mp nL
    rw [List.map_cons, List.sum_cons]
    by_cases hh : h ∈ zs
    · have p := List.perm_cons_erase hh
      have e := perm_sum (p.map f)
      rw [e, List.map_cons, List.sum_cons]
      have nz2 := (p.nodup_iff.mp nz)
      obtain ⟨m1, m2⟩ := List.nodup_cons.mp nz2
      rw [sum_off L (zs.erase h) n2 m2 (fun z hz => ?_) (fun g hg ng => ?_)]
      · rcases List.mem_cons.mp (s z (List.mem_of_mem_erase hz)) with rfl | q
        · exact absurd hz m1
        · exact q
      · refine o g (List.mem_cons_of_mem _ hg) fun q => ng ?_
        rcases List.mem_cons.mp (p.mem_iff.mp q) with rfl | q
        · exact absurd hg n1
        · exact q
    · rw [o h List.mem_cons_self hh, sum_off L zs n2 nz (fun z hz => ?_) (fun g hg ng => o g (List.mem_cons_of_mem _ hg) ng)]
      · omega
      · rcases List.mem_cons.mp (s z hz) with rfl | q
        · exact absurd hz hh
        · exact q
theorem sum_add {α : Type} {f g : α → Int} : ∀ l : List α, (l.map fun x => f x + g x).sum = (l.map f).sum + (l.map g).sum
  | [] => rfl
  | x :: l => by
    rw [List.map_cons, List.sum_cons, List.map_cons, List.sum_cons, List.map_cons, List.sum_cons, sum_add l]
    omega
theorem list_getD (rs : List Int) : rs = (List.range rs.length).map fun i => rs.getD i 0 := by
  refine List.ext_getElem (by simp) fun i h1 h2 => ?_
  rw [List.getElem_map, List.getElem_range, List.getD_eq_getElem?_getD, List.getElem?_eq_getElem h1] <;> rfl
/-- all are seated -/
structure AllAt (rows : Rows) (zs ps rs : List Int) : Prop where
  l1 : zs.length = rows.length
  l2 : ps.length = rows.length
  l3 : rs.length = 12
  nd : zs.Nodup
  in_ : ∀ i, i < rows.length → zs.getD i 0 ∈ canAt rows i
  neg : ∀ x ∈ rs, x ≤ 0
  le : ∀ i, i < rows.length → ∀ h ∈ canAt rows i, pr ps i + rn rs h ≤ cost rows i h
  sum : ((List.range rows.length).map fun i => cost rows i (zs.getD i 0)).sum = ps.sum + rs.sum
theorem Seated.all {rows : Rows} {hs : List (Option Int)} {ps rs : List Int} {hf : Int → Option Nat} (ok : RowsOk rows) (S : Seated rows rows.length hs ps rs hf) : ∃ zs : List Int, hs = zs.map some ∧ AllAt rows zs ps rs := by
  obtain ⟨zs, rfl⟩ : ∃ zs : List Int, hs = zs.map some := by
    refine ⟨hs.map fun x => x.getD 0, ?_⟩
    rw [List.map_map]
    refine List.ext_getElem (by simp) fun i h1 h2 => ?_
    rw [List.getElem_map]
    obtain ⟨h, e, _⟩ := S.at_ i (by rw [← S.l1]; exact h1)
    rw [List.getElem?_eq_getElem h1] at e
    rw [Option.some.inj e]
    rfl
  have l1 : zs.length = rows.length := by have := S.l1; rwa [List.length_map] at this
  have gi : ∀ i, i < rows.length → zs[i]? = some (zs.getD i 0) := fun i hi => by
    rw [List.getD_eq_getElem?_getD, List.getElem?_eq_getElem (by omega)] <;> rfl
  have ga : ∀ i, i < rows.length → zs.getD i 0 ∈ canAt rows i ∧ pr ps i + rn rs (zs.getD i 0) = cost rows i (zs.getD i 0) := fun i hi => by
    obtain ⟨h, e, h1, h2⟩ := S.at_ i hi
    rw [List.getElem?_map, gi i hi] at e
    have e : zs.getD i 0 = h := Option.some.inj (Option.some.inj e)
    rw [e]
    exact ⟨h1, h2⟩
  have hold : ∀ (i : Nat) (h : Int), zs[i]? = some h → hf h = some i := fun i h e => (S.hold h i).mpr (by rw [List.getElem?_map, e] <;> rfl)
  have nd : zs.Nodup := by
    refine List.pairwise_iff_getElem.mpr fun i j hi hj hij e => ?_
    have a := hold i _ (List.getElem?_eq_getElem hi)
    have b := hold j _ (List.getElem?_eq_getElem hj)
    rw [e, b] at a
    have := Option.some.inj a
    omega
  refine ⟨zs, rfl, l1, S.l2, S.l3, nd, fun i hi => (ga i hi).1, fun x hx => ?_, S.bound, ?_⟩
  · obtain ⟨i, hi⟩ := List.mem_iff_getElem?.mp hx
    have := S.neg (i : Int)
    unfold rn at this
    rw [show ((i : Int)).toNat = i from rfl, List.getD_eq_getElem?_getD, hi] at this
    exact this
  · have e1 : ((List.range rows.length).map fun i => cost rows i (zs.getD i 0)) = (List.range rows.length).map fun i => ps.getD i 0 + rn rs (zs.getD i 0) := List.map_congr_left fun i hi => ((ga i (List.mem_range.mp hi)).2).symm
    rw [e1, sum_add]
    have e2 : ((List.range rows.length).map fun i => ps.getD i 0) = ps := by
      have := list_getD ps
      rw [S.l2] at this
      exact this.symm
    have e3 : ((List.range rows.length).map fun i => rn rs (zs.getD i 0)) = zs.map (rn rs) := by
      have := list_getD zs
      rw [l1] at this
      conv => rhs; rw [this]
      rw [List.map_map]
      rfl
    have e4 : rs = ((List.range 12).map fun (i : Nat) => (i : Int)).map (rn rs) := by
      have := list_getD rs
      rw [S.l3] at this
      rw [List.map_map]
      exact this
    rw [e2, e3]
    congr 1
    conv => rhs; rw [e4]
    refine sum_off _ zs ?_ nd (fun z hz => ?_) fun h hh nh => ?_
    · refine List.Pairwise.map _ (fun a b h z => h (Int.ofNat.inj z)) List.nodup_range
    · obtain ⟨i, hi⟩ := List.mem_iff_getElem?.mp hz
      have hl := (List.getElem?_eq_some_iff.mp hi).1
      have g := (ga i (by omega)).1
      rw [List.getD_eq_getElem?_getD, hi] at g
      have b := ok.in_ i z g
      exact List.mem_map.mpr ⟨z.toNat, List.mem_range.mpr (by omega), by show ((z.toNat : Nat) : Int) = z; omega⟩
    · obtain ⟨n, hn, rfl⟩ := List.mem_map.mp hh
      have hn := List.mem_range.mp hn
      refine S.free _ (by omega) (by omega) ?_
      cases e : hf (n : Int) with
      | none => rfl
      | some i =>
        have z := (S.hold _ i).mp e
        rw [List.getElem?_map] at z
        obtain ⟨y, hy, ey⟩ := Option.map_eq_some_iff.mp z
        have ey : y = (n : Int) := Option.some.inj ey
        rw [ey] at hy
        exact absurd (List.mem_of_getElem? hy) nh
end CH
namespace CH
open PySem PySem.Spec PyProof.Rows L2
theorem jumpZ_nn (x : Option Int) (h : Int) : 0 ≤ jumpZ x h := by
  cases x with
  | none => exact Int.le_refl 0
  | some i =>
    unfold jumpZ
    dsimp only
    split <;> omega
theorem rep0 (n i : Nat) : (List.replicate n (0 : Int)).getD i 0 = 0 := by
  rw [List.getD_eq_getElem?_getD, List.getElem?_replicate]
  split <;> rfl
/-- nobody is seated -/
theorem Seated.zero (rows : Rows) : Seated rows 0 (List.replicate rows.length none) (List.replicate rows.length 0) (List.replicate 12 0) (fun _ => none) := by
  refine ⟨List.length_replicate, List.length_replicate, List.length_replicate, fun i hi => absurd hi (by omega), fun i _ hi => by rw [List.getElem?_replicate, if_pos hi], fun h i => ⟨fun z => (by cases z), fun z => ?_⟩, fun i hi h hh => ?_, fun h => ?_, fun h _ _ _ => rep0 _ _⟩
  · rw [List.getElem?_replicate] at z
    split at z
    · cases Option.some.inj z
    · cases z
  · have e1 : pr (List.replicate rows.length 0) i = 0 := rep0 _ _
    have e2 : rn (List.replicate 12 0) h = 0 := rep0 _ _
    rw [e1, e2]
    exact jumpZ_nn _ _
  · have e2 : rn (List.replicate 12 0) h = 0 := rep0 _ _
    rw [e2]
    exact Int.le_refl 0
end CH
end

section
set_option Elab.async false
set_option linter.all false
set_option maxRecDepth 100000
set_option maxHeartbeats 4000000
/-! tables against each other: the least sum -/
namespace CH
open PySem PySem.Spec PyProof.Rows L2
/-- what is below nothing off zs sums over zs above all -/
theorem sum_off_le {f : Int → Int} : ∀ (L zs : List Int), zs.Nodup → L.Nodup → (∀ z ∈ zs, z ∈ L) → (∀ h ∈ L, f h ≤ 0) → (L.map f).sum ≤ (zs.map f).sum
  | [], zs, _, _, s, _ => by
    cases zs with
    | nil => exact Int.le_refl _
    | cons z zs => exact absurd (s z List.mem_cons_self) (by simp)
  | h :: L, zs, nz, nL, s, o => by
    obtain ⟨n1, n2⟩ := List.nodup_cons.mp nL
    rw [List.map_cons, List.sum_cons]
    have ol : ∀ h ∈ L, f h ≤ 0 := fun g hg => o g (List.mem_cons_of_mem _ hg)
    by_cases hh : h ∈ zs
    · have p := List.perm_cons_erase hh
      have e := perm_sum (p.map f)
      rw [e, List.map_cons, List.sum_cons]
      obtain ⟨m1, m2⟩ := List.nodup_cons.mp (p.nodup_iff.mp nz)
      have := sum_off_le L (zs.erase h) m2 n2 (fun z hz => by
        rcases List.mem_cons.mp (s z (List.mem_of_mem_erase hz)) with rfl | q
        · exact absurd hz m1
        · exact q) ol
      omega
    · have := sum_off_le L zs nz n2 (fun z hz => by
        rcases List.mem_cons.mp (s z hz) with rfl | q
        · exact absurd hz hh
        · exact q) ol
      have := o h List.mem_cons_self
      omega
/-- all have hours of their own -/
structure Sit (rows : Rows) (zs : List Int) : Prop where
  l1 : zs.length = rows.length
  nd : zs.Nodup
  in_ : ∀ i, i < rows.length → zs.getD i 0 ∈ canAt rows i
def costs (rows : Rows) (zs : List Int) : Int := ((List.range rows.length).map fun i => cost rows i (zs.getD i 0)).sum
theorem AllAt.sit {rows : Rows} {zs ps rs : List Int} (A : AllAt rows zs ps rs) : Sit rows zs := ⟨A.l1, A.nd, A.in_⟩
theorem sum_le {α : Type} {f g : α → Int} : ∀ l : List α, (∀ x ∈ l, f x ≤ g x) → (l.map f).sum ≤ (l.map g).sum
  | [], _ => Int.le_refl _
  | x :: l, h => by
    rw [List.map_cons, List.sum_cons, List.map_cons, List.sum_cons]
    have := h x List.mem_cons_self
    have := sum_le l fun y hy => h y (List.mem_cons_of_mem _ hy)
    omega
theorem range12_nd : ((List.range 12).map fun (n : Nat) => (n : Int)).Nodup := List.Pairwise.map _ (fun a b h z => h (Int.ofNat.inj z)) List.nodup_range
theorem Sit.bnd {rows : Rows} {ys : List Int} (ok : RowsOk rows) (S : Sit rows ys) : ∀ y ∈ ys, y ∈ (List.range 12).map fun (n : Nat) => (n : Int) := fun y hy => by
  obtain ⟨i, hi⟩ := List.mem_iff_getElem?.mp hy
  have hl := (List.getElem?_eq_some_iff.mp hi).1
  have g := S.in_ i (by rw [← S.l1]; exact hl)
  rw [List.getD_eq_getElem?_getD, hi] at g
  have b := ok.in_ i y g
  exact List.mem_map.mpr ⟨y.toNat, List.mem_range.mpr (by omega), by show ((y.toNat : Nat) : Int) = y; omega⟩
/-- prices and rents are at most what any way costs -/
theorem AllAt.least {rows : Rows} {zs ps rs ys : List Int} (ok : RowsOk rows) (A : AllAt rows zs ps rs) (S : Sit rows ys) : ps.sum + rs.sum ≤ costs rows ys := by
  have e1 := sum_le (f := fun i => ps.getD i 0 + rn rs (ys.getD i 0)) (g := fun i => cost rows i (ys.getD i 0)) (List.range rows.length) fun i hi => A.le i (List.mem_range.mp hi) _ (S.in_ i (List.mem_range.mp hi))
  rw [sum_add] at e1
  have e2 : ((List.range rows.length).map fun i => ps.getD i 0) = ps := by
    have := list_getD ps
    rw [A.l2] at this
    exact this.symm
  have e3 : ((List.range rows.length).map fun i => rn rs (ys.getD i 0)) = ys.map (rn rs) := by
    have := list_getD ys
    rw [S.l1] at this
    conv => rhs; rw [this]
    rw [List.map_map]
    rfl
  have e4 : rs = ((List.range 12).map fun (i : Nat) => (i : Int)).map (rn rs) := by
    have := list_getD rs
    rw [A.l3] at this
    rw [List.map_map]
    exact this
  rw [e2, e3] at e1
  have e5 := sum_off_le (f := rn rs) _ ys S.nd range12_nd (S.bnd ok) fun h hh => by
    obtain ⟨n, hn, rfl⟩ := List.mem_map.mp hh
    have : ∀ n : Nat, rs.getD n 0 ≤ 0 := fun n => by
      rw [List.getD_eq_getElem?_getD]
      cases e : rs[n]? with
      | none => exact Int.le_refl _
      | some x => exact A.neg x (List.mem_of_getElem? e)
    exact this _
  rw [← e4] at e5
  unfold costs
  omega
theorem AllAt.cost_ {rows : Rows} {zs ps rs : List Int} (A : AllAt rows zs ps rs) : costs rows zs = ps.sum + rs.sum := A.sum
theorem cost_nn (rows : Rows) (i : Nat) (h : Int) : 0 ≤ cost rows i h := jumpZ_nn _ _
theorem sum_nn0 {α : Type} {f : α → Int} : ∀ l : List α, (∀ x ∈ l, 0 ≤ f x) → (l.map f).sum ≤ 0 → ∀ x ∈ l, f x = 0
  | [], _, _ => fun x hx => absurd hx (by simp)
  | y :: l, h, e => fun x hx => by
    rw [List.map_cons, List.sum_cons] at e
    have a := h y List.mem_cons_self
    have nn : 0 ≤ (l.map f).sum := by
      have : ∀ l : List α, (∀ x ∈ l, 0 ≤ f x) → 0 ≤ (l.map f).sum := fun l => by
        induction l with
        | nil => intro _; exact Int.le_refl _
        | cons z l ih =>
          intro h
          rw [List.map_cons, List.sum_cons]
          have := h z List.mem_cons_self
          have := ih fun x hx => h x (List.mem_cons_of_mem _ hx)
          omega
      exact this l fun x hx => h x (List.mem_cons_of_mem _ hx)
    rcases List.mem_cons.mp hx with rfl | hx
    · omega
    · exact sum_nn0 l (fun x hx => h x (List.mem_cons_of_mem _ hx)) (by omega) x hx
end CH
end

section
set_option Elab.async false
set_option linter.all false
set_option maxRecDepth 100000
set_option maxHeartbeats 4000000
/-! the least sum, row by row -/
namespace CH
open PySem PySem.Spec PyProof.Rows L2
/-- hours of their own for the first rows -/
structure Ways (rows : Rows) (i : Nat) (zs : List Int) : Prop where
  l : zs.length = i
  nd : zs.Nodup
  in_ : ∀ j, j < i → zs.getD j 0 ∈ canAt rows j
def costI (rows : Rows) (i : Nat) (zs : List Int) : Int := ((List.range i).map fun j => cost rows j (zs.getD j 0)).sum
theorem Ways.sit {rows : Rows} {zs : List Int} : Ways rows rows.length zs ↔ Sit rows zs := ⟨fun w => ⟨w.l, w.nd, w.in_⟩, fun s => ⟨s.l1, s.nd, s.in_⟩⟩
theorem costI_all (rows : Rows) (zs : List Int) : costI rows rows.length zs = costs rows zs := rfl
theorem getD_snoc {zs : List Int} {h : Int} {i j : Nat} (l : zs.length = i) (hj : j < i) : (zs ++ [h]).getD j 0 = zs.getD j 0 := by
  rw [List.getD_eq_getElem?_getD, List.getD_eq_getElem?_getD, List.getElem?_append_left (by omega)]
theorem getD_last {zs : List Int} {h : Int} {i : Nat} (l : zs.length = i) : (zs ++ [h]).getD i 0 = h := by
  rw [List.getD_eq_getElem?_getD, List.getElem?_append_right (by omega), l, Nat.sub_self] <;> rfl
theorem Ways.snoc {rows : Rows} {i : Nat} {zs : List Int} {h : Int} (w : Ways rows i zs) (hh : h ∈ canAt rows i) (nh : h ∉ zs) : Ways rows (i + 1) (zs ++ [h]) := by
  refine ⟨by rw [List.length_append, w.l] <;> rfl, ?_, fun j hj => ?_⟩
  · refine List.nodup_append.mpr ⟨w.nd, List.pairwise_singleton _ _, fun a ha b hb e => nh ?_⟩
    rw [← List.mem_singleton.mp hb, ← e]
    exact ha
  · rcases Nat.lt_succ_iff_lt_or_eq.mp hj with z | z
    · rw [getD_snoc w.l z]
      exact w.in_ j z
    · subst z
      rw [getD_last w.l]
      exact hh
theorem costI_snoc {rows : Rows} {i : Nat} {zs : List Int} {h : Int} (l : zs.length = i) : costI rows (i + 1) (zs ++ [h]) = costI rows i zs + cost rows i h := by
  unfold costI
  rw [List.range_succ, List.map_append, List.sum_append]
  have e : ((List.range i).map fun j => cost rows j ((zs ++ [h]).getD j 0)) = (List.range i).map fun j => cost rows j (zs.getD j 0) := List.map_congr_left fun j hj => by rw [getD_snoc l (List.mem_range.mp hj)]
  rw [e, List.map_cons, List.map_nil, getD_last l]
  show _ + (cost rows i h + 0) = _
  rw [Int.add_zero]
theorem Ways.init {rows : Rows} {i : Nat} {zs : List Int} (w : Ways rows (i + 1) zs) : ∃ ys h, zs = ys ++ [h] ∧ Ways rows i ys ∧ h ∈ canAt rows i ∧ h ∉ ys := by
  have ne : zs ≠ [] := fun e => by have := w.l; rw [e] at this; cases this
  obtain ⟨ys, h, rfl⟩ : ∃ ys h, zs = ys ++ [h] := ⟨zs.dropLast, zs.getLast ne, (List.dropLast_concat_getLast ne).symm⟩
  have l : ys.length = i := by
    have := w.l
    rw [List.length_append] at this
    have e : [h].length = 1 := rfl
    omega
  obtain ⟨n1, n2, n3⟩ := List.nodup_append.mp w.nd
  refine ⟨ys, h, rfl, ⟨l, n1, fun j hj => ?_⟩, ?_, fun z => n3 h z h List.mem_cons_self rfl⟩
  · rw [← getD_snoc l hj]
    exact w.in_ j (by omega)
  · have := w.in_ i (by omega)
    rwa [getD_last l] at this
def keyI (zs : List Int) : List Key := zs.map Sum.inl
theorem keyI_inj {zs ys : List Int} (h : keyI zs = keyI ys) : zs = ys := (List.map_inj_right fun a b e => Sum.inl.inj e).mp h
/-- sorted ones with the same members are the same -/
theorem perm_sorted {xs ys : List Int} (p : xs.Perm ys) (h1 : xs.Pairwise (· ≤ ·)) (h2 : ys.Pairwise (· ≤ ·)) : xs = ys := p.eq_of_pairwise (fun a b _ _ => Int.le_antisymm) h1 h2
/-- what is sound: each entry is some way -/
structure LeastA (rows : Rows) (i : Nat) (kvs : List (List Key × V)) : Prop where
  ex : ∀ p ∈ kvs, ∃ (zs ys : List Int), p.1 = keyI zs ∧ zs.Pairwise (· ≤ ·) ∧ Ways rows i ys ∧ zs.Perm ys ∧ p.2 = .int (costI rows i ys)
/-- each way that was looked at has an entry at most as dear -/
def HasK (kvs : List (List Key × V)) (ys : List Int) (v : Int) : Prop := ∃ (zs : List Int) (u : Int), zs.Pairwise (· ≤ ·) ∧ zs.Perm ys ∧ valV kvs (keyI zs) = some (.int u) ∧ u ≤ v
structure Least (rows : Rows) (i : Nat) (kvs : List (List Key × V)) : Prop where
  a : LeastA rows i kvs
  b : ∀ ys, Ways rows i ys → HasK kvs ys (costI rows i ys)
theorem valV_mem {kvs : List (List Key × V)} {k : List Key} {v : V} (h : valV kvs k = some v) : ∃ q ∈ kvs, q.1 = k ∧ q.2 = v := by
  unfold valV at h
  obtain ⟨q, hq, e⟩ := Option.map_eq_some_iff.mp h
  have f := List.find?_some (p := fun kv : List Key × V => decide (kv.1 = k)) hq
  exact ⟨q, List.mem_of_find?_eq_some hq, of_decide_eq_true f, e⟩
theorem min_le (a b : Int) : (if a < b then a else b) ≤ a ∧ (if a < b then a else b) ≤ b := by split <;> omega
theorem mem_put {κ : Type} [DecidableEq κ] {kvs : List (κ × V)} {k : κ} {v : V} {p : κ × V} (h : p ∈ putK kvs k v) : p ∈ kvs ∨ p = (k, v) := by
  unfold putK at h
  split at h
  · obtain ⟨q, hq, e⟩ := List.mem_map.mp h
    split at e
    · next z => exact .inr (by rw [← e, z])
    · exact .inl (by rw [← e]; exact hq)
  · rcases List.mem_append.mp h with h | h
    · exact .inl h
    · exact .inr (List.mem_singleton.mp h)
theorem LeastA.put {rows : Rows} {i : Nat} {kvs : List (List Key × V)} {zs ys : List Int} (a : LeastA rows i kvs) (s : zs.Pairwise (· ≤ ·)) (w : Ways rows i ys) (p : zs.Perm ys) : LeastA rows i (putK kvs (keyI zs) (.int (costI rows i ys))) :=
  ⟨fun q hq => by
    rcases mem_put hq with h | h
    · exact a.ex q h
    · rw [h]
      exact ⟨zs, ys, rfl, s, w, p, rfl⟩⟩
theorem HasK.put {kvs : List (List Key × V)} {ys : List Int} {v w : Int} {k : List Key} (h : HasK kvs ys v) (le : ∀ u : Int, valV kvs k = some (.int u) → w ≤ u) : HasK (putK kvs k (.int w)) ys v := by
  obtain ⟨zs, u, s, p, e, l⟩ := h
  by_cases z : keyI zs = k
  · have := le u (by rw [← z]; exact e)
    exact ⟨zs, w, s, p, by rw [valV_put, if_pos z], by omega⟩
  · exact ⟨zs, u, s, p, by rw [valV_put, if_neg z]; exact e, l⟩
theorem HasK.new {kvs : List (List Key × V)} {zs ys : List Int} {v w : Int} (s : zs.Pairwise (· ≤ ·)) (p : zs.Perm ys) (l : w ≤ v) : HasK (putK kvs (keyI zs) (.int w)) ys v := ⟨zs, w, s, p, by rw [valV_put, if_pos rfl], l⟩
theorem HasK.perm {kvs : List (List Key × V)} {ys xs : List Int} {v u : Int} (h : HasK kvs ys v) (p : ys.Perm xs) (l : v ≤ u) : HasK kvs xs u := by
  obtain ⟨zs, w, s, q, e, l2⟩ := h
  exact ⟨zs, w, s, q.trans p, e, by omega⟩
/-- what was looked at: all hours behind the first u entries, the first t behind the next -/
structure Look (rows : Rows) (i : Nat) (kvs ls : List (List Key × V)) (u t : Nat) : Prop where
  a : LeastA rows (i + 1) ls
  b : ∀ (j : Nat) (zs : List Int) (v : Int) (m : Nat) (h : Int), (j < u ∨ (j = u ∧ m < t)) → (∃ x, kvs[j]? = some (keyI zs, x)) → valV kvs (keyI zs) = some (.int v) → (canAt rows i)[m]? = some h → h ∉ zs → HasK ls (zs ++ [h]) (v + cost rows i h)
theorem Look.zero (rows : Rows) (i : Nat) (kvs : List (List Key × V)) : Look rows i kvs [] 0 0 := ⟨⟨fun p hp => absurd hp (by simp)⟩, fun j zs v m h c => absurd c (by omega)⟩
theorem Look.next {rows : Rows} {i u : Nat} {kvs ls : List (List Key × V)} (L : Look rows i kvs ls u (canAt rows i).length) : Look rows i kvs ls (u + 1) 0 :=
  ⟨L.a, fun j zs v m h c e1 e2 e3 => L.b j zs v m h (by
    have := (List.getElem?_eq_some_iff.mp e3).1
    omega) e1 e2 e3⟩
/-- an hour that is there already -/
theorem Look.skip {rows : Rows} {i u t : Nat} {kvs ls : List (List Key × V)} {zs : List Int} {x : V} {h : Int} (L : Look rows i kvs ls u t) (hk : kvs[u]? = some (keyI zs, x)) (hh : (canAt rows i)[t]? = some h) (ht : h ∈ zs) : Look rows i kvs ls u (t + 1) :=
  ⟨L.a, fun j ys v m g c e1 e2 e3 ng => by
    by_cases z : j < u ∨ (j = u ∧ m < t)
    · exact L.b j ys v m g z e1 e2 e3 ng
    · obtain ⟨rfl, rfl⟩ : j = u ∧ m = t := by omega
      obtain ⟨x2, e1⟩ := e1
      rw [hk] at e1
      have ek := keyI_inj (Prod.mk.inj (Option.some.inj e1)).1
      rw [hh] at e3
      rw [← ek, ← Option.some.inj e3] at ng
      exact absurd ht ng⟩
theorem Look.put {rows : Rows} {i u t : Nat} {kvs ls : List (List Key × V)} {zs ss : List Int} {x : V} {h v w : Int} (A : LeastA rows i kvs) (L : Look rows i kvs ls u t) (hk : kvs[u]? = some (keyI zs, x)) (hv : valV kvs (keyI zs) = some (.int v)) (hh : (canAt rows i)[t]? = some h) (nh : h ∉ zs)
    (s : ss.Pairwise (· ≤ ·)) (p : ss.Perm (zs ++ [h])) (hw : w = (match valV ls (keyI ss) with | some (.int g) => if v + cost rows i h < g then v + cost rows i h else g | _ => v + cost rows i h)) : Look rows i kvs (putK ls (keyI ss) (.int w)) u (t + 1) := by
  obtain ⟨p0, hp0, e0, e0'⟩ := valV_mem hv
  obtain ⟨zs', ys, k1, s1, w1, pz, c1⟩ := A.ex p0 hp0
  obtain rfl : zs = zs' := keyI_inj (e0.symm.trans k1)
  have cv : v = costI rows i ys := V.int.inj (e0'.symm.trans c1)
  have hm := List.mem_of_getElem? hh
  have wy : Ways rows (i + 1) (ys ++ [h]) := w1.snoc hm fun z => nh (pz.mem_iff.mpr z)
  have cy : v + cost rows i h = costI rows (i + 1) (ys ++ [h]) := by rw [costI_snoc w1.l, cv]
  have ps : ss.Perm (ys ++ [h]) := p.trans (pz.append_right [h])
  have wle : w ≤ v + cost rows i h := by
    rw [hw]
    split
    · exact (min_le _ _).1
    · exact Int.le_refl _
  have wold : ∀ g : Int, valV ls (keyI ss) = some (.int g) → w ≤ g := fun g e => by
    rw [hw, e]
    exact (min_le _ _).2
  refine ⟨?_, fun j xs y m g c e1 e2 e3 ng => ?_⟩
  · rcases hg : valV ls (keyI ss) with _ | g
    · rw [hg] at hw
      rw [hw, cy]
      exact L.a.put s wy ps
    · obtain ⟨q, hq, f1, f2⟩ := valV_mem hg
      obtain ⟨zs2, ys2, k2, s2, w2, p2, c2⟩ := L.a.ex q hq
      obtain rfl : ss = zs2 := keyI_inj (f1.symm.trans k2)
      have eg : g = .int (costI rows (i + 1) ys2) := f2.symm.trans c2
      rw [hg, eg] at hw
      dsimp only at hw
      by_cases z : v + cost rows i h < costI rows (i + 1) ys2
      · rw [if_pos z] at hw
        rw [hw, cy]
        exact L.a.put s wy ps
      · rw [if_neg z] at hw
        rw [hw]
        exact L.a.put s w2 p2
  · by_cases z : j < u ∨ (j = u ∧ m < t)
    · exact (L.b j xs y m g z e1 e2 e3 ng).put wold
    · obtain ⟨rfl, rfl⟩ : j = u ∧ m = t := by omega
      obtain ⟨x2, e1⟩ := e1
      rw [hk] at e1
      obtain rfl : zs = xs := keyI_inj (Prod.mk.inj (Option.some.inj e1)).1
      rw [hh] at e3
      obtain rfl : h = g := Option.some.inj e3
      rw [hv] at e2
      obtain rfl : v = y := V.int.inj (Option.some.inj e2)
      exact .new s p wle
/-- all looked at -/
theorem Look.done {rows : Rows} {i : Nat} {kvs ls : List (List Key × V)} (M : Least rows i kvs) (L : Look rows i kvs ls kvs.length 0) : Least rows (i + 1) ls := by
  refine ⟨L.a, fun ys w => ?_⟩
  obtain ⟨xs, h, rfl, w1, hh, nh⟩ := w.init
  obtain ⟨zs, u, s, p, e, l⟩ := M.b xs w1
  obtain ⟨m, hm⟩ := List.mem_iff_getElem?.mp hh
  obtain ⟨q, hq, f1, _⟩ := valV_mem e
  obtain ⟨j, hj⟩ := List.mem_iff_getElem?.mp hq
  have hjl := (List.getElem?_eq_some_iff.mp hj).1
  have r := L.b j zs u m h (.inl hjl) ⟨q.2, by rw [hj, ← f1]⟩ e hm fun z => nh (p.mem_iff.mp z)
  rw [costI_snoc w1.l]
  exact r.perm (p.append_right [h]) (by omega)
theorem Least.zero (rows : Rows) : Least rows 0 [([], .int 0)] := by
  refine ⟨⟨fun p hp => ?_⟩, fun ys w => ?_⟩
  · rw [List.mem_singleton.mp hp]
    exact ⟨[], [], rfl, List.Pairwise.nil, ⟨rfl, List.nodup_nil, fun j hj => absurd hj (Nat.not_lt_zero _)⟩, .refl _, rfl⟩
  · obtain rfl : ys = [] := List.length_eq_zero_iff.mp w.l
    exact ⟨[], 0, List.Pairwise.nil, .refl _, rfl, Int.le_refl _⟩
end CH
end

section
set_option Elab.async false
set_option linter.all false
set_option maxRecDepth 100000
/-! lemmas that the program's own defs lean on -/
namespace CH
open PySem PySem.Spec PyProof.Rows L2
open GxR (TabB TabG Tabbed)
theorem inV_str {x : Str} : ∀ xs : List Str, inV (.str x) (xs.map V.str) = decide (x ∈ xs)
  | [] => by simp [inV]
  | y :: ys => by
    have ih := inV_str (x := x) ys
    have e : inV (.str x) ((y :: ys).map V.str) = (decide (y = x) || inV (.str x) (ys.map V.str)) := rfl
    rw [e, ih]
    by_cases h : y = x
    · subst h; simp
    · have h' : ¬ x = y := fun z => h z.symm
      simp [h, h']
theorem flat_str : ∀ xs : List Str, (xs.map V.str).all flatV = true
  | [] => rfl
  | _ :: xs => flat_str xs
theorem flat_int : ∀ xs : List Int, (xs.map V.int).all flatV = true
  | [] => rfl
  | _ :: xs => flat_int xs
theorem blT {p : Prop} [Decidable p] (h : p) : V.bl (decide p) = V.bl true := by rw [decide_eq_true h]
theorem blF {p : Prop} [Decidable p] (h : ¬ p) : V.bl (decide p) = V.bl false := by rw [decide_eq_false h]
theorem cut2 (w : Wd) : cutV w.V none (some 2) = (kW w).map kV := by
  unfold cutV
  rw [HT.sIx_none, show HT.sIx w.V.length w.V.length (some 2) = min 2 w.V.length from HT.sIx_nat w.V.length w.V.length 2]
  rfl
theorem not_whole2 (w : Wd) : ¬ (HT.sIx w.V.length 0 none = 0 ∧ HT.sIx w.V.length w.V.length (some 2) = w.V.length) := by
  rw [show HT.sIx w.V.length w.V.length (some 2) = min 2 w.V.length from HT.sIx_nat w.V.length w.V.length 2]
  intro h
  have h2 : (2 : Nat) = 5 := h.2
  exact absurd h2 (by decide)
theorem inV_int {x : Int} : ∀ xs : List Int, inV (.int x) (xs.map V.int) = decide (x ∈ xs)
  | [] => by simp [inV]
  | y :: ys => by
    have ih := inV_int (x := x) ys
    have e : inV (.int x) ((y :: ys).map V.int) = (decide (y = x) || inV (.int x) (ys.map V.int)) := rfl
    rw [e, ih]
    by_cases h : y = x
    · subst h; simp
    · have h' : ¬ x = y := fun z => h z.symm
      simp [h, h']
theorem cut2b (w : Wd) : cutV w.V (some 2) none = [.int w.p, .int w.o, .str w.a] := by
  unfold cutV
  rw [HT.sIx_none, show HT.sIx w.V.length 0 (some 2) = min 2 w.V.length from HT.sIx_nat w.V.length 0 2]
  rfl
theorem not_whole2b (w : Wd) : ¬ (HT.sIx w.V.length 0 (some 2) = 0 ∧ HT.sIx w.V.length w.V.length none = w.V.length) := by
  rw [show HT.sIx w.V.length 0 (some 2) = min 2 w.V.length from HT.sIx_nat w.V.length 0 2]
  intro h
  have h2 : (2 : Nat) = 0 := h.1
  exact absurd h2 (by decide)
def kPO (p o : Int) : List Key := [Sum.inl p, Sum.inl o]
theorem kPO_inj {a b c d : Int} : kPO a b = kPO c d ↔ a = c ∧ b = d := by
  unfold kPO
  constructor
  · intro h
    injection h with h1 h2
    injection h2 with h2 _
    exact ⟨Sum.inl.inj h1, Sum.inl.inj h2⟩
  · rintro ⟨rfl, rfl⟩
    rfl
/-- the dict of the answers -/
def AnsD (kvs : List (List Key × V)) (f : Int → Int → Option Str) : Prop := ∀ p o, valV kvs (kPO p o) = (f p o).map V.str
theorem range_take {i n : Nat} (h : i < n) : (List.range n).take (i + 1) = (List.range n).take i ++ [i] := by
  rw [List.take_add_one, List.getElem?_range h] <;> rfl
/-- words and a meeting as they are handed in -/
structure Asked (K : PySem.W.Frag) (H : Hp) (l : Addr) (ws : List Wd) (a : Addr) (m : Mt) (cm cc : Addr) : Prop where
  hw : WsAt K H l ws
  h80 : ws.length ≤ 80
  ok : ∀ x ∈ ws, x.ok
  al : Alike ws
  hm : MAt K H a m
  mok : m.ok
  tm : TabG H cm
  tc : TabG H cc
theorem Asked.k {cm cc : Addr} {K : PySem.W.Frag} {H H' : Hp} {l a : Addr} {ws : List Wd} {m : Mt} (k : Kx H H') (h : Asked K H l ws a m cm cc) : Asked K H' l ws a m cm cc :=
  ⟨h.hw.k k, h.h80, h.ok, h.al, h.hm.k k, h.mok, k.g _ h.tm, k.g _ h.tc⟩
end CH
end

section
set_option Elab.async false
set_option linter.all false
set_option maxRecDepth 100000
set_option maxHeartbeats 4000000
/-! words, meetings and olds as data; what is told of tables -/
namespace CH
open PySem PySem.Spec PyProof.Rows L2
def mtD (m : Mt) : PyData := .tuple [.tuple (m.ps.map PyData.int), .int m.e, .tuple (m.nds.map PyData.int)]
def oldD : Option Int → PyData
  | none => .none
  | some i => .int i
theorem tints_eqv (xs ys : List Int) : PyData.eqv (.tuple (xs.map PyData.int)) (.tuple (ys.map PyData.int)) = decide (xs = ys) := eqvAll_map int_eqv xs ys
theorem mtD_eqv (m : Mt) : PyData.eqv (mtD m) (mtD m) = true := by
  have e : PyData.eqv (mtD m) (mtD m) = (PyData.eqv (.tuple (m.ps.map PyData.int)) (.tuple (m.ps.map PyData.int)) && (PyData.eqv (.int m.e) (.int m.e) && (PyData.eqv (.tuple (m.nds.map PyData.int)) (.tuple (m.nds.map PyData.int)) && true))) := rfl
  rw [e, tints_eqv, tints_eqv, int_eqv, decide_eq_true rfl, decide_eq_true rfl, decide_eq_true rfl] <;> rfl
theorem eqvAll_self {α : Type} {f : α → PyData} (hf : ∀ a, PyData.eqv (f a) (f a) = true) : ∀ xs : List α, PyData.eqvAll (xs.map f) (xs.map f) = true
  | [] => rfl
  | x :: xs => by
    have e : PyData.eqvAll ((x :: xs).map f) ((x :: xs).map f) = (PyData.eqv (f x) (f x) && PyData.eqvAll (xs.map f) (xs.map f)) := rfl
    rw [e, hf x, eqvAll_self hf xs] <;> rfl
theorem oldD_eqv : ∀ x : Option Int, PyData.eqv (oldD x) (oldD x) = true
  | none => rfl
  | some i => by
    show PyData.eqv (.int i) (.int i) = true
    rw [int_eqv, decide_eq_true rfl]
/-- a table's three lists -/
def tbD (ws : List Wd) (ms : List Mt) (os : List (Option Int)) : PyData := .list [wsD ws, .list (ms.map mtD), .list (os.map oldD)]
theorem tbD_eqv (ws : List Wd) (ms : List Mt) (os : List (Option Int)) : PyData.eqv (tbD ws ms os) (tbD ws ms os) = true := by
  have e : PyData.eqv (tbD ws ms os) (tbD ws ms os) = (PyData.eqv (wsD ws) (wsD ws) && (PyData.eqvAll (ms.map mtD) (ms.map mtD) && (PyData.eqvAll (os.map oldD) (os.map oldD) && true))) := rfl
  rw [e, wsD_eqv, decide_eq_true rfl, eqvAll_self mtD_eqv, eqvAll_self oldD_eqv] <;> rfl
theorem mtD_dp {K : PySem.W.Frag} {H : Hp} {a : Addr} {m : Mt} (h : MAt K H a m) : Dp K H (.ref a) (mtD m) := by
  obtain ⟨p, n, h1, h2, h3⟩ := h.ex
  exact .tup h1 (.cons (.tup h2 (ints_dp _)) (.cons (.int _) (.cons (.tup h3 (ints_dp _)) .nil)))
theorem olds_dp {K : PySem.W.Frag} {H : Hp} : ∀ os : List (Option Int), DpAll K H (os.map oldV) (os.map oldD)
  | [] => .nil
  | none :: os => .cons .non (olds_dp os)
  | some i :: os => .cons (.int i) (olds_dp os)
theorem msD_dp {K : PySem.W.Frag} {H : Hp} {l : Addr} {ms : List Mt} (h : MsAt K H l ms) : Dp K H (.ref l) (.list (ms.map mtD)) := by
  obtain ⟨as, a, b⟩ := h
  refine .lst a ?_
  clear a
  induction b with
  | nil => exact .nil
  | cons r t ih => exact .cons (mtD_dp r) ih
theorem tbD_dp {K : PySem.W.Frag} {H : Hp} {t l a o : Addr} {ws : List Wd} {ms : List Mt} {os : List (Option Int)} (h : SqL K H t [.ref l, .ref a, .ref o]) (hw : WsAt K H l ws) (hm : MsAt K H a ms) (ho : SqL K H o (os.map oldV)) : Dp K H (.ref t) (tbD ws ms os) :=
  .lst h (.cons (wsD_dp hw) (.cons (msD_dp hm) (.cons (.lst ho (olds_dp os)) .nil)))
theorem mts_lay : ∀ ms : List Mt, PyData.canLayAll0 (ms.map mtD) = true
  | [] => rfl
  | m :: ms => by simp only [List.map_cons, PyData.canLayAll0, PyData.canLay0, mtD, ints_lay, mts_lay ms, Bool.and_self]
theorem mts_dep : ∀ ms : List Mt, PyData.depthAll (ms.map mtD) ≤ 2
  | [] => by simp [PyData.depthAll]
  | m :: ms => by
    have ih := mts_dep ms
    simp only [List.map_cons, PyData.depthAll, PyData.depth, mtD, ints_depth]
    omega
theorem olds_lay : ∀ os : List (Option Int), PyData.canLayAll0 (os.map oldD) = true
  | [] => rfl
  | none :: os => by simp only [List.map_cons, PyData.canLayAll0, PyData.canLay0, oldD, olds_lay os, Bool.and_self]
  | some i :: os => by simp only [List.map_cons, PyData.canLayAll0, PyData.canLay0, oldD, olds_lay os, Bool.and_self]
theorem olds_dep : ∀ os : List (Option Int), PyData.depthAll (os.map oldD) = 0
  | [] => by simp [PyData.depthAll]
  | none :: os => by simp only [List.map_cons, PyData.depthAll, PyData.depth, oldD, olds_dep os, Nat.max_self]
  | some i :: os => by simp only [List.map_cons, PyData.depthAll, PyData.depth, oldD, olds_dep os, Nat.max_self]
theorem olds_sh (os : List (Option Int)) : SeqAt.shaped (.list (os.map oldD)) = true := by
  unfold SeqAt.shaped
  simp only [PyData.canLay0, olds_lay, PyData.depth, olds_dep]
  rfl
theorem tbD_sh {ws : List Wd} (ms : List Mt) (os : List (Option Int)) (ok : ∀ x ∈ ws, x.ok) : SeqAt.shaped (tbD ws ms os) = true := by
  unfold SeqAt.shaped tbD wsD
  have e1 : (PyData.list [.list (ws.map wdD), .list (ms.map mtD), .list (os.map oldD)]).canLay0 = true := by
    simp only [PyData.canLay0, PyData.canLayAll0, wds_lay ws ok, mts_lay, olds_lay, Bool.and_self]
  have e2 : (PyData.list [.list (ws.map wdD), .list (ms.map mtD), .list (os.map oldD)]).depth ≤ 64 := by
    have := wds_dep ws
    have := mts_dep ms
    simp only [PyData.depth, PyData.depthAll, olds_dep]
    omega
  rw [e1, decide_eq_true e2]
  rfl
end CH
end

section
set_option Elab.async false
set_option linter.all false
set_option maxRecDepth 100000
set_option maxHeartbeats 4000000
namespace CH
open PySem PySem.Spec PyProof.Rows L2
open GxR (TabB TabG Tabbed)
section
variable {P : Program} {w : World} {K : PySem.W.Frag} {mg : Str → Option Value} {base : Heap} {c aA : Addr}
abbrev st_is_whole : Stmt := top 16
abbrev nm_is_whole : List Str := ["value"]
theorem sc_is_whole : FnScope nm_is_whole ["value"] (defScope st_is_whole) := C8.fnScope_by (by decide +kernel)
def sp_is_whole : Sp := fun vs H Q _ => ∃ (v : Int), vs = [.int v] ∧ Q (.bl true) H
theorem ok_is_whole (D : DefT K mg "is_whole" st_is_whole c) (T : Tx K mg aA) : C8.Cal P w K mg base 1 "is_whole" sp_is_whole [] := by
  refine cal_of D sc_is_whole (fun _ _ _ _ _ _ us hl => match us, hl with | [_], _ => rfl) (fun vs H Q E h => ?_) (fun f A outer s H vs Q E hr h => ?_)
  · obtain ⟨v, rfl, _⟩ := h
    rfl
  · obtain ⟨v, rfl, q⟩ := h
    have nd := sc_is_whole.nd
    refine ⟨_, (pss_one (ps_ret (pe_and (pe_callB call_isi (by rfl) T.z_isinstance (by decide +kernel) (pa_cons (pv 0) (pa_cons (pe_bltn (v := .ty "int") (by rfl) T.z_int (by decide +kernel) rfl) pa_nil))) (pe_one (pe_not (pe_callB call_isi (by rfl) T.z_isinstance (by decide +kernel) (pa_cons (pv 0) (pa_cons (pe_bltn (v := .ty "bool") (by rfl) T.z_bool (by decide +kernel) rfl) pa_nil)))))))), ?_⟩
    refine ⟨_, rfl, .int v, .ty "int", .type "int", .type "int", true, rfl, .ty _, .base (.int v), kit_ty (by decide +kernel), true, rfl, ?_⟩
    refine iteT ⟨_, rfl, .int v, .ty "bool", .type "int", .type "bool", false, rfl, .ty _, .base (.int v), kit_ty (by decide +kernel), false, rfl, ?_⟩
    exact q
abbrev st_is_number : Stmt := top 17
abbrev nm_is_number : List Str := ["value", "least", "most"]
theorem sc_is_number : FnScope nm_is_number ["value", "least", "most"] (defScope st_is_number) := C8.fnScope_by (by decide +kernel)
def sp_is_number : Sp := fun vs H Q _ => ∃ (v lo hi : Int), vs = [.int v, .int lo, .int hi] ∧ Q (.bl (decide (lo ≤ v ∧ v ≤ hi))) H
theorem ok_is_number (D : DefT K mg "is_number" st_is_number c) (f_is_whole : C8.Cal P w K mg base 1 "is_whole" sp_is_whole []) : C8.Cal P w K mg base 2 "is_number" sp_is_number [] := by
  refine cal_of D sc_is_number (fun _ _ _ _ _ _ us hl => match us, hl with | [_, _, _], _ => rfl) (fun vs H Q E h => ?_) (fun f A outer s H vs Q E hr h => ?_)
  · obtain ⟨v, lo, hi, rfl, _⟩ := h
    rfl
  · obtain ⟨v, lo, hi, rfl, q⟩ := h
    have nd := sc_is_number.nd
    refine ⟨_, (pss_one (ps_ret (pe_and (C8.pe_c f_is_whole hr (by first | decide | exact hkp) (by rfl) (pa_cons (pv 0) pa_nil)) (pe_one (pe_chain op_le op_le (pv 1) (pv 0) (pv 2)))))), ?_⟩
    refine ⟨_, rfl, v, rfl, true, rfl, iteT ?_⟩
    refine ⟨_, rfl, _, rfl, _, _, rfl, rfl, _, rfl, ?_⟩
    by_cases h1 : lo ≤ v
    · rw [decide_eq_true h1]
      refine iteT ⟨_, rfl, _, _, rfl, rfl, ?_⟩
      rw [show decide (lo ≤ v ∧ v ≤ hi) = decide (v ≤ hi) by simp [h1]] at q
      exact q
    · rw [decide_eq_false h1]
      refine iteF ?_
      rw [show decide (lo ≤ v ∧ v ≤ hi) = false by simp [h1]] at q
      exact q
abbrev st_is_hand : Stmt := top 18
abbrev nm_is_hand : List Str := ["value"]
theorem sc_is_hand : FnScope nm_is_hand ["value"] (defScope st_is_hand) := C8.fnScope_by (by decide +kernel)
def sp_is_hand : Sp := fun vs H Q _ => ∃ (v : Int), vs = [.int v] ∧ Q (.bl (decide (0 ≤ v ∧ v ≤ 3))) H
theorem ok_is_hand (D : DefT K mg "is_hand" st_is_hand c) (T : Tx K mg aA) (f_is_number : C8.Cal P w K mg base 2 "is_number" sp_is_number []) : C8.Cal P w K mg base 3 "is_hand" sp_is_hand [] := by
  refine cal_of D sc_is_hand (fun _ _ _ _ _ _ us hl => match us, hl with | [_], _ => rfl) (fun vs H Q E h => ?_) (fun f A outer s H vs Q E hr h => ?_)
  · obtain ⟨v, rfl, _⟩ := h
    rfl
  · obtain ⟨v, rfl, q⟩ := h
    have nd := sc_is_hand.nd
    refine ⟨_, (pss_one (ps_ret (C8.pe_c f_is_number hr (by first | decide | exact hkp) (by rfl) (pa_cons (pv 0) (pa_cons pe_int (pa_cons (pe_op op_sub (C8.pe_gc (by rfl) T.c_HANDS) pe_int) pa_nil)))))), ?_⟩
    exact ⟨_, rfl, _, _, rfl, rfl, v, 0, 3, rfl, q⟩
abbrev st_is_person : Stmt := top 19
abbrev nm_is_person : List Str := ["value"]
theorem sc_is_person : FnScope nm_is_person ["value"] (defScope st_is_person) := C8.fnScope_by (by decide +kernel)
def sp_is_person : Sp := fun vs H Q _ => ∃ (v : Int), vs = [.int v] ∧ Q (.bl (decide (0 ≤ v ∧ v ≤ 7))) H
theorem ok_is_person (D : DefT K mg "is_person" st_is_person c) (T : Tx K mg aA) (f_is_number : C8.Cal P w K mg base 2 "is_number" sp_is_number []) : C8.Cal P w K mg base 3 "is_person" sp_is_person [] := by
  refine cal_of D sc_is_person (fun _ _ _ _ _ _ us hl => match us, hl with | [_], _ => rfl) (fun vs H Q E h => ?_) (fun f A outer s H vs Q E hr h => ?_)
  · obtain ⟨v, rfl, _⟩ := h
    rfl
  · obtain ⟨v, rfl, q⟩ := h
    have nd := sc_is_person.nd
    refine ⟨_, (pss_one (ps_ret (C8.pe_c f_is_number hr (by first | decide | exact hkp) (by rfl) (pa_cons (pv 0) (pa_cons pe_int (pa_cons (pe_op op_sub (C8.pe_gc (by rfl) T.c_PEOPLE) pe_int) pa_nil)))))), ?_⟩
    exact ⟨_, rfl, _, _, rfl, rfl, v, 0, 7, rfl, q⟩
abbrev st_is_hour : Stmt := top 20
abbrev nm_is_hour : List Str := ["value"]
theorem sc_is_hour : FnScope nm_is_hour ["value"] (defScope st_is_hour) := C8.fnScope_by (by decide +kernel)
def sp_is_hour : Sp := fun vs H Q _ => ∃ (v : Int), vs = [.int v] ∧ Q (.bl (decide (0 ≤ v ∧ v ≤ 11))) H
theorem ok_is_hour (D : DefT K mg "is_hour" st_is_hour c) (T : Tx K mg aA) (f_is_number : C8.Cal P w K mg base 2 "is_number" sp_is_number []) : C8.Cal P w K mg base 3 "is_hour" sp_is_hour [] := by
  refine cal_of D sc_is_hour (fun _ _ _ _ _ _ us hl => match us, hl with | [_], _ => rfl) (fun vs H Q E h => ?_) (fun f A outer s H vs Q E hr h => ?_)
  · obtain ⟨v, rfl, _⟩ := h
    rfl
  · obtain ⟨v, rfl, q⟩ := h
    have nd := sc_is_hour.nd
    refine ⟨_, (pss_one (ps_ret (C8.pe_c f_is_number hr (by first | decide | exact hkp) (by rfl) (pa_cons (pv 0) (pa_cons pe_int (pa_cons (pe_op op_sub (C8.pe_gc (by rfl) T.c_HOURS) pe_int) pa_nil)))))), ?_⟩
    exact ⟨_, rfl, _, _, rfl, rfl, v, 0, 11, rfl, q⟩
abbrev st_is_answer : Stmt := top 21
abbrev nm_is_answer : List Str := ["value"]
theorem sc_is_answer : FnScope nm_is_answer ["value"] (defScope st_is_answer) := C8.fnScope_by (by decide +kernel)
def sp_is_answer : Sp := fun vs H Q _ => ∃ (x : Str), vs = [.str x] ∧ Q (.bl (decide (x ∈ ansL))) H
theorem ok_is_answer (D : DefT K mg "is_answer" st_is_answer c) (T : Tx K mg aA) : C8.Cal P w K mg base 1 "is_answer" sp_is_answer [] := by
  refine cal_of D sc_is_answer (fun _ _ _ _ _ _ us hl => match us, hl with | [_], _ => rfl) (fun vs H Q E h => ?_) (fun f A outer s H vs Q E hr h => ?_)
  · obtain ⟨x, rfl, _⟩ := h
    rfl
  · obtain ⟨x, rfl, q⟩ := h
    have nd := sc_is_answer.nd
    refine ⟨_, (pss_one (ps_ret (pe_and (pe_callB call_isi (by rfl) T.z_isinstance (by decide +kernel) (pa_cons (pv 0) (pa_cons (pe_bltn (v := .ty "str") (by rfl) T.z_str (by decide +kernel) rfl) pa_nil))) (pe_one (pe_cmpR op_in_seq (pv 0) (C8.pe_gc (by rfl) T.c_ANSWERS) (by rfl)))))), ?_⟩
    refine ⟨_, rfl, .str x, .ty "str", .type "str", .type "str", true, rfl, .ty _, .base (.str x), kit_ty (by decide +kernel), true, rfl, ?_⟩
    refine iteT ⟨_, rfl, aA, ansL.map V.str, rfl, .inr (T.hA H), rfl, flat_str _, ?_⟩
    rw [if_neg Bool.false_ne_true, inV_str]
    exact q
end
end CH
end

section
set_option Elab.async false
set_option linter.all false
set_option maxRecDepth 100000
set_option maxHeartbeats 4000000
namespace CH
open PySem PySem.Spec PyProof.Rows L2
open GxR (TabB TabG Tabbed)
section
variable {P : Program} {w : World} {K : PySem.W.Frag} {mg : Str → Option Value} {base : Heap} {c aA : Addr}
abbrev st_is_word : Stmt := top 22
abbrev nm_is_word : List Str := ["value", "count", "hand", "person", "hour", "answer"]
theorem sc_is_word : FnScope nm_is_word ["value"] (defScope st_is_word) := C8.fnScope_by (by decide +kernel)
/-- a word, or not quite one -/
def sp_is_word (K : PySem.W.Frag) : Sp := fun vs H Q _ => ∃ (t : Addr) (x : Wd), vs = [.ref t] ∧ SqT K H t x.V ∧ Q (.bl (decide x.ok)) H
theorem ok_is_word (D : DefT K mg "is_word" st_is_word c) (T : Tx K mg aA) (f_is_number : C8.Cal P w K mg base 2 "is_number" sp_is_number []) (f_is_hand : C8.Cal P w K mg base 3 "is_hand" sp_is_hand []) (f_is_person : C8.Cal P w K mg base 3 "is_person" sp_is_person []) (f_is_hour : C8.Cal P w K mg base 3 "is_hour" sp_is_hour []) (f_is_answer : C8.Cal P w K mg base 1 "is_answer" sp_is_answer []) :
    C8.Cal P w K mg base 4 "is_word" (sp_is_word K) [] := by
  refine cal_of D sc_is_word (fun _ _ _ _ _ _ us hl => match us, hl with | [_], _ => rfl) (fun vs H Q E h => ?_) (fun f A outer s H vs Q E hr h => ?_)
  · obtain ⟨t, x, rfl, _⟩ := h
    rfl
  · obtain ⟨t, x, rfl, ht, q⟩ := h
    have nd := sc_is_word.nd
    refine ⟨_, (pss_cons (ps_if (PW.pt (pw_or (pt_not (pt_val (pe_callB call_isi (by rfl) T.z_isinstance (by decide +kernel) (pa_cons (pv 0) (pa_cons (pe_bltn (v := .ty "tuple") (by rfl) T.z_tuple (by decide +kernel) rfl) pa_nil))))) (pw_or1 (pt_cmpR op_ne (pe_callB call_len_seq (by rfl) T.z_len PySem.boot_len (pa_cons (pv 0) pa_nil)) pe_int (nomark _))))) (pss_one (ps_ret pe_bl)) pss_nil)
      (pss_cons (ps_asg (pv 0) (pg_tup (by rfl) (pgs_cons (pg_name (i := 1) nd rfl (Or.inl rfl)) (pgs_cons (pg_name (i := 2) nd rfl (Or.inl rfl)) (pgs_cons (pg_name (i := 3) nd rfl (Or.inl rfl)) (pgs_cons (pg_name (i := 4) nd rfl (Or.inl rfl)) (pgs_cons (pg_name (i := 5) nd rfl (Or.inl rfl)) pgs_nil)))))))
      (pss_one (ps_ret (pe_and (C8.pe_c f_is_number hr (by first | decide | exact hkp) (by rfl) (pa_cons (pv 1) (pa_cons pe_int (pa_cons (C8.pe_gc (by rfl) T.c_COUNTS) pa_nil)))) (pe_and (C8.pe_c f_is_hand hr (by first | decide | exact hkp) (by rfl) (pa_cons (pv 2) pa_nil)) (pe_and (C8.pe_c f_is_person hr (by first | decide | exact hkp) (by rfl) (pa_cons (pv 3) pa_nil)) (pe_and (C8.pe_c f_is_hour hr (by first | decide | exact hkp) (by rfl) (pa_cons (pv 4) pa_nil)) (pe_one (C8.pe_c f_is_answer hr (by first | decide | exact hkp) (by rfl) (pa_cons (pv 5) pa_nil))))))))))), ?_⟩
    refine ⟨_, rfl, .ref t, .ty "tuple", .type "tuple", .type "tuple", true, rfl, .ty _, tyx_tup ht, kit_ty (by decide +kernel), true, rfl, iteF ?_⟩
    refine ⟨_, rfl, t, _, rfl, .inr ht, rfl, _, rfl, iteF ?_⟩
    have no : ¬ x.ok → Q (.bl false) H := fun z => by
      rw [decide_eq_false z] at q
      exact q
    -- count, hand, person, hour, answer = value
    refine ⟨_, rfl, t, _, rfl, ht, rfl, _, _, rfl, _, _, rfl, _, _, rfl, _, _, rfl, _, _, rfl, rfl, ?_⟩
    by_cases o1 : 1 ≤ x.c ∧ x.c ≤ 99
    case neg => exact ⟨_, rfl, x.c, 1, 99, rfl, false, blF o1, iteF (no fun z => o1 ⟨z.1, z.2.1⟩)⟩
    refine ⟨_, rfl, x.c, 1, 99, rfl, true, blT o1, iteT ?_⟩
    by_cases o2 : 0 ≤ x.h ∧ x.h ≤ 3
    case neg => exact ⟨_, rfl, x.h, rfl, false, blF o2, iteF (no fun z => o2 ⟨z.2.2.1, z.2.2.2.1⟩)⟩
    refine ⟨_, rfl, x.h, rfl, true, blT o2, iteT ?_⟩
    by_cases o3 : 0 ≤ x.p ∧ x.p ≤ 7
    case neg => exact ⟨_, rfl, x.p, rfl, false, blF o3, iteF (no fun z => o3 ⟨z.2.2.2.2.1, z.2.2.2.2.2.1⟩)⟩
    refine ⟨_, rfl, x.p, rfl, true, blT o3, iteT ?_⟩
    by_cases o4 : 0 ≤ x.o ∧ x.o ≤ 11
    case neg => exact ⟨_, rfl, x.o, rfl, false, blF o4, iteF (no fun z => o4 ⟨z.2.2.2.2.2.2.1, z.2.2.2.2.2.2.2.1⟩)⟩
    refine ⟨_, rfl, x.o, rfl, true, blT o4, iteT ?_⟩
    refine ⟨_, rfl, x.a, rfl, ?_⟩
    by_cases o9 : x.a ∈ ansL
    · rw [blT o9]
      rw [decide_eq_true (show x.ok from ⟨o1.1, o1.2, o2.1, o2.2, o3.1, o3.2, o4.1, o4.2, o9⟩)] at q
      exact q
    · rw [blF o9]
      exact no fun z => o9 z.2.2.2.2.2.2.2.2
abbrev st_copied_words : Stmt := top 23
abbrev nm_copied_words : List Str := ["words", "copies", "word", "count", "hand", "person", "hour", "answer"]
theorem sc_copied_words : FnScope nm_copied_words ["words"] (defScope st_copied_words) := C8.fnScope_by (by decide +kernel)
/-- words, eighty at most: a new list of them; else BadWords -/
def sp_copied_words (K : PySem.W.Frag) (cB : Addr) : Sp := fun vs H Q E => ∃ (l : Addr) (ws : List Wd), vs = [.ref l] ∧ WsAt K H l ws ∧ ws.length ≤ 1000 ∧
  (ws.length ≤ 80 → (∀ x ∈ ws, x.ok) → ∀ (H' : Hp) (r : Addr) (ts : List Addr), Kx H H' → H r = none → H' r = some (.lst (ts.map V.ref)) → TAt H' ts ws → Q (.ref r) H') ∧
  ((80 < ws.length ∨ ∃ x ∈ ws, ¬ x.ok) → ∀ H', Kx H H' → E (.ref cB) none H')
theorem ok_copied_words {cB : Addr} (D : DefT K mg "copied_words" st_copied_words c) (T : Tx K mg aA) (e_BadWords : Exn K mg "BadWords" cB) (f_is_word : C8.Cal P w K mg base 4 "is_word" (sp_is_word K) []) : CalX P w K mg base 5 "copied_words" (sp_copied_words K cB) := by
  refine calX_of D sc_copied_words (fun _ _ _ _ _ _ us hl => match us, hl with | [_], _ => rfl) (fun vs H Q E h => ?_) (fun f A outer s H vs Q E hr h => ?_)
  · obtain ⟨l, ws, rfl, _⟩ := h
    rfl
  · obtain ⟨l, ws, rfl, ⟨ts, hl, hw⟩, h1000, q, qe⟩ := h
    have nd := sc_copied_words.nd
    have len := paired_len hw
    refine ⟨_, (pss_cons (ps_if (PW.pt (pw_or (pt_not (pt_val (pe_callB call_isi (by rfl) T.z_isinstance (by decide +kernel) (pa_cons (pv 0) (pa_cons (pe_bltn (v := .ty "list") (by rfl) T.z_list (by decide +kernel) rfl) pa_nil))))) (pw_or1 (pt_cmpR op_gt (pe_callB call_len_seq (by rfl) T.z_len PySem.boot_len (pa_cons (pv 0) pa_nil)) (C8.pe_gc (by rfl) T.c_MOST_WORDS) (nomark _))))) (pss_one (L2N.ps_raise rfl (L2N.takes_of rfl rfl rfl rfl) (L2N.pmk_own PySem.F.excBase_ValueError e_BadWords.q e_BadWords.g e_BadWords.k (raises_own e_BadWords.b e_BadWords.t) (by rfl)))) pss_nil)
      (pss_cons (ps_set (i := 1) nd rfl (Or.inl rfl) (pe_lst pa_nil))
      (pss_cons (ps_for (passes_of rfl) rfl (pi_list (pv 0)) (pg_name (i := 2) nd rfl (Or.inl rfl)) (pss_cons (ps_if (pt_not (pt_val (C8.pe_c f_is_word hr (by first | decide | exact hkp) (by rfl) (pa_cons (pv 2) pa_nil)))) (pss_one (L2N.ps_raise rfl (L2N.takes_of rfl rfl rfl rfl) (L2N.pmk_own PySem.F.excBase_ValueError e_BadWords.q e_BadWords.g e_BadWords.k (raises_own e_BadWords.b e_BadWords.t) (by rfl)))) pss_nil)
      (pss_cons (ps_asg (pv 2) (pg_tup (by rfl) (pgs_cons (pg_name (i := 3) nd rfl (Or.inl rfl)) (pgs_cons (pg_name (i := 4) nd rfl (Or.inl rfl)) (pgs_cons (pg_name (i := 5) nd rfl (Or.inl rfl)) (pgs_cons (pg_name (i := 6) nd rfl (Or.inl rfl)) (pgs_cons (pg_name (i := 7) nd rfl (Or.inl rfl)) pgs_nil)))))))
      (pss_one (ps_expr (pe_bm PySem.F.plainAttrs_list PySem.F.slot_list_append PySem.F.type_list_append mt_append (pv 1) (pa_cons (pe_tup (pa_cons (pv 3) (pa_cons (pv 4) (pa_cons (pv 5) (pa_cons (pv 6) (pa_cons (pv 7) pa_nil)))))) pa_nil)))))))
      (pss_one (ps_ret (pv 1)))))), ?_⟩
    refine ⟨_, rfl, .ref l, .ty "list", .type "list", .type "list", true, rfl, .ty _, tyx_lst hl, kit_ty (by decide +kernel), true, rfl, iteF ?_⟩
    refine ⟨_, rfl, l, _, rfl, .inl hl, _, 80, rfl, rfl, _, rfl, ?_⟩
    rw [List.length_map]
    by_cases h80 : 80 < ws.length
    · rw [show decide ((ts.length : Int) > 80) = true from decide_eq_true (by omega)]
      exact iteT (qe (.inl h80) _ (Kx.refl H))
    rw [show decide ((ts.length : Int) > 80) = false from decide_eq_false (by omega)]
    refine iteF ?_
    -- copies = []
    refine ⟨Nat.zero_le _, fun r nr => ?_⟩
    have k0 : Kx H (upd H r (.lst [])) := Kx.new nr
    refine ⟨_, rfl, l, rfl, ⟨_, k0.l hl⟩, for_list (K := K) (a := l) (xs := ts.map V.ref) (fun i σ H2 => ∃ (rs : List Addr) (v2 v3 v4 v5 v6 v7 : Option V), σ = [some (.ref l), some (.ref r), v2, v3, v4, v5, v6, v7] ∧ Kx H H2 ∧
        H2 r = some (.lst (rs.map V.ref)) ∧ TAt H2 rs (ws.take i) ∧ ∀ x ∈ ws.take i, x.ok)
      ⟨[], none, none, none, none, none, none, rfl, k0, upd_same, .nil, fun x hx => absurd hx (by simp)⟩ (fun i σ H2 _ ⟨_, _, _, _, _, _, _, _, k2, _⟩ => k2.l hl) ?_ ?_⟩
    · rintro i y σ H2 hi ⟨rs, v2, v3, v4, v5, v6, v7, rfl, k2, hr2, hrs, ok2⟩
      obtain ⟨t, ht, rfl⟩ : ∃ t, ts[i]? = some t ∧ V.ref t = y := by
        rw [List.getElem?_map] at hi
        exact Option.map_eq_some_iff.mp hi
      obtain ⟨x, hx, hsx⟩ := paired_at hw ht
      have hsx2 := k2.t hsx
      by_cases okx : x.ok
      case neg => exact ⟨_, rfl, t, x, rfl, hsx2, false, blF okx, iteT (qe (.inr ⟨x, List.mem_of_getElem? hx, okx⟩) _ k2)⟩
      refine ⟨_, rfl, t, x, rfl, hsx2, true, blT okx, iteF ?_⟩
      refine ⟨_, rfl, t, _, rfl, hsx2, rfl, _, _, rfl, _, _, rfl, _, _, rfl, _, _, rfl, _, _, rfl, rfl, ?_⟩
      refine ⟨_, rfl, .inl ⟨rfl, _, sq_of hr2⟩, _, rfl, _, rfl, _, rfl, _, rfl, _, rfl, (by show 5 ≤ sizeLine; decide), fun p np => ?_⟩
      have k3 : Kx H2 (upd H2 p (.tup x.V)) := Kx.new np
      have nrp : r ≠ p := ne_of_none hr2 np
      have lenr : rs.length ≤ 80 := by
        rw [paired_len hrs, List.length_take]
        omega
      refine ⟨r, rs.map V.ref, _, rfl, rfl, k3.lst hr2, (by rw [List.length_map]; exact lt80 (by omega)), ?_⟩
      have e : ws.take (i + 1) = ws.take i ++ [x] := by rw [List.take_add_one, hx] <;> rfl
      refine ⟨rs ++ [p], _, _, _, _, _, _, rfl, (k2.trans k3).mut nr, ?_, ?_, ?_⟩
      · rw [upd_same, List.map_append]
        rfl
      · rw [e]
        refine paired_snoc ((hrs.k k3).up (k3.lst hr2) (fun _ z => nomatch z)) ?_
        rw [upd_ne nrp.symm, upd_same]
        rfl
      · rw [e]
        intro y hy
        rcases List.mem_append.mp hy with hy | hy
        · exact ok2 y hy
        · rw [List.mem_singleton.mp hy]
          exact okx
    · rintro σ H2 ⟨rs, v2, v3, v4, v5, v6, v7, rfl, k2, hr2, hrs, ok2⟩
      rw [List.length_map, len, List.take_length] at hrs ok2
      exact ⟨_, rfl, q (by omega) ok2 H2 r rs k2 nr hr2 hrs⟩
end
end CH
end

section
set_option Elab.async false
set_option linter.all false
set_option maxRecDepth 100000
set_option maxHeartbeats 4000000
namespace CH
open PySem PySem.Spec PyProof.Rows L2
open GxR (TabB TabG Tabbed)
section
variable {P : Program} {w : World} {K : PySem.W.Frag} {mg : Str → Option Value} {base : Heap} {c aA : Addr}
abbrev st_each_once : Stmt := top 24
abbrev nm_each_once : List Str := ["words", "known", "word", "place"]
theorem sc_each_once : FnScope nm_each_once ["words"] (defScope st_each_once) := C8.fnScope_by (by decide +kernel)
/-- words: a new list, each once, in order; or Unlike -/
def sp_each_once (K : PySem.W.Frag) (cU : Addr) : Sp := fun vs H Q E => ∃ (l : Addr) (ts : List Addr) (ws : List Wd), vs = [.ref l] ∧ SqL K H l (ts.map V.ref) ∧ TAt H ts ws ∧ ws.length ≤ 200 ∧ (∀ x ∈ ws, x.ok) ∧
  (Alike ws → ∀ (H' : Hp) (r : Addr) (ts : List Addr) (us : List Wd), Kx H H' → H r = none → H' r = some (.lst (ts.map V.ref)) → TAt H' ts us → Once ws us → Q (.ref r) H') ∧
  (¬ Alike ws → ∀ H', Kx H H' → E (.ref cU) none H')
theorem ok_each_once {cU : Addr} (D : DefT K mg "each_once" st_each_once c) (T : Tx K mg aA) (e_Unlike : Exn K mg "Unlike" cU) : CalX P w K mg base 1 "each_once" (sp_each_once K cU) := by
  refine calX_of D sc_each_once (fun _ _ _ _ _ _ us hl => match us, hl with | [_], _ => rfl) (fun vs H Q E h => ?_) (fun f A outer s H vs Q E hr h => ?_)
  · obtain ⟨l, ts, ws, rfl, _⟩ := h
    rfl
  · obtain ⟨l, ts, ws, rfl, hl, hw, h200, hok, q, qe⟩ := h
    have nd := sc_each_once.nd
    have hu := hu_of hr
    have len := paired_len hw
    refine ⟨_, (pss_cons (ps_set (i := 1) nd rfl (Or.inl rfl) pe_dnewT)
      (pss_cons (ps_for (passes_of rfl) rfl (pi_list (pv 0)) (pg_name (i := 2) nd rfl (Or.inl rfl)) (pss_cons (ps_set (i := 3) nd rfl (Or.inl rfl) (pe_slice sl_tup (pv 2) po_none (po_some pe_int)))
      (pss_one (ps_if (pt_cmpR (op_neD hr.units) (pe_setdT hu (pv 1) (pv 3) (pv 2) ⟨rfl, rfl, rfl, rfl⟩) (pv 2) (nomark _)) (pss_one (L2N.ps_raise rfl (L2N.takes_of rfl rfl rfl rfl) (L2N.pmk_own PySem.F.excBase_ValueError e_Unlike.q e_Unlike.g e_Unlike.k (raises_own e_Unlike.b e_Unlike.t) (by rfl)))) pss_nil))))
      (pss_one (ps_ret (pe_callB (cr_sortedVals rfl) (by rfl) T.z_sorted (by decide +kernel) (pa_cons (pe_bm0 PySem.F.plainAttrs_dict PySem.F.slot_dict_values PySem.F.type_dict_values mt_valuesT (pv 1)) pa_nil)))))), ?_⟩
    intro d nd0
    have k0 : Kx H (upd H d (.dT [])) := Kx.new nd0
    refine ⟨_, rfl, l, rfl, ⟨_, k0.l hl⟩, for_list (K := K) (a := l) (xs := ts.map V.ref) (fun i σ H2 => ∃ (qs : List (Addr × Wd)) (v2 v3 : Option V), σ = [some (.ref l), some (.ref d), v2, v3] ∧ Kx H H2 ∧
        H2 d = some (.dT (qs.map entW)) ∧ PAt H2 qs ∧ Kept qs (ws.take i) ∧ qs.length ≤ i)
      ⟨[], none, none, rfl, k0, upd_same, fun q z => absurd z (by simp), Kept.nil, Nat.le_refl _⟩ (fun i σ H2 _ ⟨_, _, _, _, k2, _⟩ => k2.l hl) ?_ ?_⟩
    · rintro i y σ H2 hi ⟨qs, v2, v3, rfl, k2, hd2, hp2, kq, hlq⟩
      obtain ⟨t, ht, rfl⟩ : ∃ t, ts[i]? = some t ∧ V.ref t = y := by
        rw [List.getElem?_map] at hi
        exact Option.map_eq_some_iff.mp hi
      obtain ⟨x, hx, hsx⟩ := paired_at hw ht
      have hxm : x ∈ ws := List.mem_of_getElem? hx
      have hi2 : i < ts.length := (List.getElem?_eq_some_iff.mp ht).1
      have e1 : ws.take (i + 1) = ws.take i ++ [x] := by rw [List.take_add_one, hx] <;> rfl
      have hs2 := k2.tup hsx
      -- place = word[:2]
      refine ⟨_, rfl, 2, rfl, t, _, rfl, st_of hs2, not_whole2 x, fun p np => ?_⟩
      have k3 : Kx H2 (upd H2 p (.tup (cutV x.V none (some 2)))) := Kx.new np
      have hpl : (upd H2 p (.tup (cutV x.V none (some 2)))) p = some (.tup ((kW x).map kV)) := by rw [upd_same, cut2]
      have hd3 := k3.dt hd2
      have hs3 := k3.tup hs2
      refine ⟨.ref d, rfl, d, rfl, .inr ⟨_, .inl hd3⟩, .ref p, rfl, .ref t, rfl, _, kW x, p, hd3, rfl, hpl, (by rw [List.length_map]; exact lt80 (by omega)), fun v hv => ?_, fun hv => ?_⟩
      · -- it was there
        rcases valV_entW (w := x) (qs := qs) with ⟨q0, hq0, ek, ev⟩ | ⟨_, ev⟩
        · rw [ev] at hv
          cases hv
          have hm : q0.2 ∈ ws.take i := (kq.mem q0.2).mp (List.mem_map.mpr ⟨q0, hq0, rfl⟩)
          have hm2 : q0.2 ∈ ws := List.mem_of_mem_take hm
          obtain ⟨c1, c2⟩ := kW_inj ek
          have hq3 := k3.tup (hp2 q0 hq0)
          have hok0 := hok _ hm2
          refine ⟨.ref t, rfl, wdD q0.2, wdD x, wdD_dp (st_of hq3), wdD_dp (st_of hs3), wdD_sh hok0.2.2.2.2.2.2.2.2, wdD_sh (hok x hxm).2.2.2.2.2.2.2.2, _, rfl, ?_⟩
          rw [wdD_eqv]
          by_cases eq0 : q0.2 = x
          case neg =>
            rw [decide_eq_false eq0]
            exact iteT (qe (fun al => eq0 (al _ hm2 _ hxm c1 c2)) _ (k2.trans k3))
          rw [decide_eq_true eq0]
          rw [eq0] at hq3 hm
          refine iteF ?_
          refine ⟨qs, _, _, rfl, k2.trans k3, hd3, hp2.k k3, ?_, by omega⟩
          rw [e1]
          exact kq.same ((kq.mem x).mpr hm)
        · rw [ev] at hv
          cases hv
      · -- it is new
        rcases valV_entW (w := x) (qs := qs) with ⟨q0, hq0, ek, ev⟩ | ⟨en, _⟩
        · rw [ev] at hv
          cases hv
        · have ndt : d ≠ t := fun e => by
            rw [← e, hd3] at hs3
            cases hs3
          have hs4 : (upd (upd H2 p (.tup (cutV x.V none (some 2)))) d (.dT (putK (qs.map entW) (kW x) (.ref t)))) t = some (.tup x.V) := by
            rw [upd_ne ndt.symm]
            exact hs3
          refine ⟨.ref t, rfl, wdD x, wdD x, wdD_dp (st_of hs4), wdD_dp (st_of hs4), wdD_sh (hok x hxm).2.2.2.2.2.2.2.2, wdD_sh (hok x hxm).2.2.2.2.2.2.2.2, _, rfl, ?_⟩
          rw [wdD_eqv, decide_eq_true rfl]
          refine iteF ?_
          refine ⟨qs ++ [(t, x)], _, _, rfl, (k2.trans k3).mut nd0, ?_, fun q0 hq0 => ?_, ?_, by rw [List.length_append]; show qs.length + 1 ≤ i + 1; omega⟩
          · rw [upd_same, putK_new _ hv, List.map_append]
            rfl
          · rcases List.mem_append.mp hq0 with z | z
            · exact ((hp2.k k3).up hd3 (fun _ z => nomatch z)) q0 z
            · rw [List.mem_singleton.mp z]
              exact hs4
          · rw [e1]
            exact kq.more (q := (t, x)) en
    · rintro σ H2 ⟨qs, v2, v3, rfl, k2, hd2, hp2, kq, hlq⟩
      rw [List.length_map, len, List.take_length] at kq
      -- sorted(known.values())
      refine ⟨.ref d, rfl, .inr (.inr (.inl ⟨rfl, .inr ⟨_, hd2⟩⟩)), d, _, rfl, rfl, hd2, fun p np => ?_⟩
      have k3 : Kx H2 (upd H2 p (valsO p d)) := Kx.new np
      refine ⟨p, d, _, qs.map (·.1), wkOf H2, 4, rfl, upd_same, k3.dt hd2, ?_, by decide, fun t ht => ?_, fun ts' r hperm hsort nr => ?_⟩
      · rw [List.map_map, List.map_map]
        rfl
      · obtain ⟨q0, hq0, rfl⟩ := List.mem_map.mp ht
        have e := wkOf_eq (hp2 q0 hq0)
        rw [e]
        exact ⟨st_of (k3.tup (hp2 q0 hq0)), rfl⟩
      · obtain ⟨us, h1, h2⟩ := once_of kq hp2 hperm hsort
        have k4 : Kx (upd H2 p (valsO p d)) (upd (upd H2 p (valsO p d)) r (.lst (ts'.map V.ref))) := Kx.new nr
        refine q kq.alike _ r ts' us ((k2.trans k3).trans k4) ((k2.trans k3).f r nr) upd_same ((h1.k k3).k k4) h2
abbrev st_checked_words : Stmt := top 25
abbrev nm_checked_words : List Str := ["words"]
theorem sc_checked_words : FnScope nm_checked_words ["words"] (defScope st_checked_words) := C8.fnScope_by (by decide +kernel)
def sp_checked_words (K : PySem.W.Frag) (cB cU : Addr) : Sp := fun vs H Q E => ∃ (l : Addr) (ws : List Wd), vs = [.ref l] ∧ WsAt K H l ws ∧ ws.length ≤ 1000 ∧
  (ws.length ≤ 80 → (∀ x ∈ ws, x.ok) → Alike ws → ∀ (H' : Hp) (r : Addr) (ts : List Addr) (us : List Wd), Kx H H' → H r = none → H' r = some (.lst (ts.map V.ref)) → TAt H' ts us → Once ws us → Q (.ref r) H') ∧
  ((80 < ws.length ∨ ∃ x ∈ ws, ¬ x.ok) → ∀ H', Kx H H' → E (.ref cB) none H') ∧
  (ws.length ≤ 80 → (∀ x ∈ ws, x.ok) → ¬ Alike ws → ∀ H', Kx H H' → E (.ref cU) none H')
theorem ok_checked_words {cB cU : Addr} (D : DefT K mg "checked_words" st_checked_words c) (f_copied_words : CalX P w K mg base 5 "copied_words" (sp_copied_words K cB)) (f_each_once : CalX P w K mg base 1 "each_once" (sp_each_once K cU)) : CalX P w K mg base 6 "checked_words" (sp_checked_words K cB cU) := by
  refine calX_of D sc_checked_words (fun _ _ _ _ _ _ us hl => match us, hl with | [_], _ => rfl) (fun vs H Q E h => ?_) (fun f A outer s H vs Q E hr h => ?_)
  · obtain ⟨l, ws, rfl, _⟩ := h
    rfl
  · obtain ⟨l, ws, rfl, hw, h1000, q, qb, qu⟩ := h
    have nd := sc_checked_words.nd
    refine ⟨_, (pss_one (ps_ret (pe_cX f_each_once hr (by decide) (by rfl) (L2N.takes_of rfl rfl rfl rfl) (pa_cons (pe_cX f_copied_words hr (by decide) (by rfl) (L2N.takes_of rfl rfl rfl rfl) (pa_cons (pv 0) pa_nil)) pa_nil)))), ?_⟩
    refine ⟨_, rfl, l, ws, rfl, hw, h1000, fun h80 hok H1 r ts k1 nr hr1 ht1 => ?_, qb⟩
    refine ⟨r, ts, ws, rfl, sq_of hr1, ht1, by omega, hok, fun hal H2 r2 ts2 us k2 nr2 hr2 ht2 ho => ?_, fun hal H2 k2 => qu h80 hok hal H2 (k1.trans k2)⟩
    exact q h80 hok hal H2 r2 ts2 us (k1.trans k2) (k1.f _ nr2) hr2 ht2 ho
/-- .. where it does not raise -/
def sp_checked_words0 (K : PySem.W.Frag) : Sp := fun vs H Q _ => ∃ (l : Addr) (ws : List Wd), vs = [.ref l] ∧ WsAt K H l ws ∧ ws.length ≤ 80 ∧ (∀ x ∈ ws, x.ok) ∧ Alike ws ∧
  ∀ (H' : Hp) (r : Addr) (ts : List Addr) (us : List Wd), Kx H H' → H r = none → H' r = some (.lst (ts.map V.ref)) → TAt H' ts us → Once ws us → Q (.ref r) H'
theorem checked0 {cB cU : Addr} (f : CalX P w K mg base 6 "checked_words" (sp_checked_words K cB cU)) : C8.Cal P w K mg base 6 "checked_words" (sp_checked_words0 K) [] :=
  f.cal fun vs H Q E ⟨l, ws, e, hw, h80, hok, hal, q⟩ => ⟨l, ws, e, hw, by omega, fun _ _ _ => q, fun z => by
    rcases z with z | ⟨x, hx, z⟩
    · omega
    · exact absurd (hok x hx) z, fun _ _ z => absurd hal z⟩
end
end CH
end

section
set_option Elab.async false
set_option linter.all false
set_option maxRecDepth 100000
set_option maxHeartbeats 4000000
namespace CH
open PySem PySem.Spec PyProof.Rows L2
open GxR (TabB TabG Tabbed)
theorem alike_mem {ws us : List Wd} (h : ∀ x, x ∈ us ↔ x ∈ ws) : Alike us ↔ Alike ws :=
  ⟨fun a x hx y hy => a x ((h x).mpr hx) y ((h y).mpr hy), fun a x hx y hy => a x ((h x).mp hx) y ((h y).mp hy)⟩
theorem tat_app {H : Hp} {ts rs : List Addr} {ws us : List Wd} (h1 : TAt H ts ws) (h2 : TAt H rs us) : TAt H (ts ++ rs) (ws ++ us) := by
  unfold TAt at h1 h2 ⊢
  induction h1 with
  | nil => exact h2
  | cons a _ ih => exact .cons a ih
/-- what may be handed in as words -/
def Good (ws : List Wd) : Prop := ws.length ≤ 80 ∧ ∀ x ∈ ws, x.ok
theorem not_good {ws : List Wd} (h : ¬ Good ws) : 80 < ws.length ∨ ∃ x ∈ ws, ¬ x.ok := by
  by_cases z : 80 < ws.length
  · exact .inl z
  · refine .inr (Classical.byContradiction fun y => h ⟨by omega, fun x hx => Classical.byContradiction fun v => y ⟨x, hx, v⟩⟩)
section
variable {P : Program} {w : World} {K : PySem.W.Frag} {mg : Str → Option Value} {base : Heap} {c aA : Addr}
abbrev st_joined : Stmt := top 31
abbrev nm_joined : List Str := ["one", "other", "words"]
theorem sc_joined : FnScope nm_joined ["one", "other"] (defScope st_joined) := C8.fnScope_by (by decide +kernel)
def sp_joined (K : PySem.W.Frag) (cB cU cT : Addr) : Sp := fun vs H Q E => ∃ (l1 l2 : Addr) (ws us : List Wd), vs = [.ref l1, .ref l2] ∧ WsAt K H l1 ws ∧ WsAt K H l2 us ∧ ws.length ≤ 1000 ∧ us.length ≤ 1000 ∧
  (Good ws → Good us → Alike (ws ++ us) → ∀ vs, Once (ws ++ us) vs → vs.length ≤ 80 → ∀ (H' : Hp) (r : Addr) (ts : List Addr), Kx H H' → H r = none → H' r = some (.lst (ts.map V.ref)) → TAt H' ts vs → Q (.ref r) H') ∧
  (¬ Good ws ∨ (Good ws ∧ Alike ws ∧ ¬ Good us) → ∀ H', Kx H H' → E (.ref cB) none H') ∧
  (Good ws ∧ (¬ Alike ws ∨ (Good us ∧ ¬ Alike (ws ++ us))) → ∀ H', Kx H H' → E (.ref cU) none H') ∧
  (Good ws → Good us → Alike (ws ++ us) → ∀ vs, Once (ws ++ us) vs → 80 < vs.length → ∀ H', Kx H H' → E (.ref cT) none H')
theorem ok_joined {cB cU cT : Addr} (D : DefT K mg "joined" st_joined c) (T : Tx K mg aA) (e_TooMany : Exn K mg "TooMany" cT) (f_checked_words : CalX P w K mg base 6 "checked_words" (sp_checked_words K cB cU)) (f_each_once : CalX P w K mg base 1 "each_once" (sp_each_once K cU)) :
    CalX P w K mg base 7 "joined" (sp_joined K cB cU cT) := by
  refine calX_of D sc_joined (fun _ _ _ _ _ _ us hl => match us, hl with | [_, _], _ => rfl) (fun vs H Q E h => ?_) (fun f A outer s H vs Q E hr h => ?_)
  · obtain ⟨l1, l2, ws, us, rfl, _⟩ := h
    rfl
  · obtain ⟨l1, l2, ws, us, rfl, hw, hu', hl1, hl2, q, qb, qu, qt⟩ := h
    have nd := sc_joined.nd
    have hu := hu_of hr
    refine ⟨_, (pss_cons (ps_set (i := 2) nd rfl (Or.inl rfl) (pe_cX f_each_once hr (by decide) (by rfl) (L2N.takes_of rfl rfl rfl rfl) (pa_cons (pe_op op_cat (pe_cX f_checked_words hr (by decide) (by rfl) (L2N.takes_of rfl rfl rfl rfl) (pa_cons (pv 0) pa_nil)) (pe_cX f_checked_words hr (by decide) (by rfl) (L2N.takes_of rfl rfl rfl rfl) (pa_cons (pv 1) pa_nil))) pa_nil)))
      (pss_cons (ps_if (pt_cmpR op_gt (pe_callB call_len_seq (by rfl) T.z_len PySem.boot_len (pa_cons (pv 2) pa_nil)) (C8.pe_gc (by rfl) T.c_MOST_WORDS) (nomark _)) (pss_one (L2N.ps_raise rfl (L2N.takes_of rfl rfl rfl rfl) (L2N.pmk_own PySem.F.excBase_ValueError e_TooMany.q e_TooMany.g e_TooMany.k (raises_own e_TooMany.b e_TooMany.t) (by rfl)))) pss_nil)
      (pss_one (ps_ret (pv 2))))), ?_⟩
    refine ⟨_, rfl, l1, ws, rfl, hw, hl1, fun h80 hok hal H1 r1 ts1 us1 k1 nr1 hr1 ht1 ho1 => ?_, fun z H1 k1 => qb (.inl fun g => ?_) H1 k1, fun h80 hok hal H1 k1 => qu ⟨⟨h80, hok⟩, .inl hal⟩ H1 k1⟩
    · refine ⟨_, rfl, l2, us, rfl, hu'.k k1, hl2, fun h80b hokb halb H2 r2 ts2 us2 k2 nr2 hr2 ht2 ho2 => ?_, fun z H2 k2 => qb (.inr ⟨⟨h80, hok⟩, hal, fun g => ?_⟩) H2 (k1.trans k2), fun h80b hokb halb H2 k2 => qu ⟨⟨h80, hok⟩, .inr ⟨⟨h80b, hokb⟩, fun z => halb fun x hx y hy => z x (List.mem_append_right _ hx) y (List.mem_append_right _ hy)⟩⟩ H2 (k1.trans k2)⟩
      · have g1 : Good ws := ⟨h80, hok⟩
        have g2 : Good us := ⟨h80b, hokb⟩
        have n1 := once_len ho1
        have n2 := once_len ho2
        have c1 := paired_len ht1
        have c2 := paired_len ht2
        refine ⟨r1, r2, _, _, rfl, rfl, k2.lst hr1, hr2, small80 (by rw [List.length_map, List.length_map]; omega), fun p np => ?_⟩
        have k3 : Kx H2 (upd H2 p (.lst (ts1.map V.ref ++ ts2.map V.ref))) := Kx.new np
        have hp : (upd H2 p (.lst (ts1.map V.ref ++ ts2.map V.ref))) p = some (.lst ((ts1 ++ ts2).map V.ref)) := by rw [upd_same, List.map_append]
        generalize upd H2 p (.lst (ts1.map V.ref ++ ts2.map V.ref)) = H3 at k3 hp ⊢
        have htt : TAt H3 (ts1 ++ ts2) (us1 ++ us2) := tat_app ((ht1.k k2).k k3) (ht2.k k3)
        have mem : ∀ x, x ∈ us1 ++ us2 ↔ x ∈ ws ++ us := fun x => by rw [List.mem_append, List.mem_append, ho1.mem x, ho2.mem x]
        have k03 := (k1.trans k2).trans k3
        refine ⟨p, ts1 ++ ts2, us1 ++ us2, rfl, sq_of hp, htt, by rw [List.length_append]; omega, fun x hx => ?_, fun hal2 H4 r4 ts4 vs4 k4 nr4 hr4 ht4 ho4 => ?_, fun hal2 H4 k4 => qu ⟨g1, .inr ⟨g2, fun z => hal2 ((alike_mem mem).mpr z)⟩⟩ H4 (k03.trans k4)⟩
        · rcases List.mem_append.mp ((mem x).mp hx) with z | z
          · exact hok x z
          · exact hokb x z
        · have hal3 := (alike_mem mem).mp hal2
          have ho5 : Once (ws ++ us) vs4 := ⟨fun x => (ho4.mem x).trans (mem x), ho4.ord⟩
          have c4 := paired_len ht4
          refine ⟨_, rfl, r4, _, rfl, .inl (sq_of hr4), _, 80, rfl, rfl, _, rfl, ?_⟩
          rw [List.length_map]
          by_cases big : 80 < vs4.length
          · rw [show decide ((ts4.length : Int) > 80) = true from decide_eq_true (by omega)]
            exact iteT (qt g1 g2 hal3 vs4 ho5 big H4 (k03.trans k4))
          · rw [show decide ((ts4.length : Int) > 80) = false from decide_eq_false (by omega)]
            refine iteF ⟨_, rfl, ?_⟩
            exact q g1 g2 hal3 vs4 ho5 (by omega) H4 r4 ts4 (k03.trans k4) (k03.f _ nr4) hr4 ht4
      · rcases z with z | ⟨x, hx, z⟩
        · exact absurd g.1 (by omega)
        · exact z (g.2 x hx)
    · rcases z with z | ⟨x, hx, z⟩
      · exact absurd g.1 (by omega)
      · exact z (g.2 x hx)
end
end CH
end

section
set_option Elab.async false
set_option linter.all false
set_option maxRecDepth 100000
set_option maxHeartbeats 4000000
namespace CH
open PySem PySem.Spec PyProof.Rows L2
open GxR (TabB TabG Tabbed)
section
variable {P : Program} {w : World} {K : PySem.W.Frag} {mg : Str → Option Value} {base : Heap} {c aA cm : Addr}
end
end CH
end

section
set_option Elab.async false
set_option linter.all false
set_option maxRecDepth 100000
set_option maxHeartbeats 4000000
namespace CH
open PySem PySem.Spec PyProof.Rows L2
open GxR (TabB TabG Tabbed)
section
variable {P : Program} {w : World} {K : PySem.W.Frag} {mg : Str → Option Value} {base : Heap} {c aA cc cm : Addr}
abbrev st_answers_that_count : Stmt := top 32
abbrev nm_answers_that_count : List Str := ["words", "answers", "word", "person", "hour", "answer"]
theorem sc_answers_that_count : FnScope nm_answers_that_count ["words"] (defScope st_answers_that_count) := C8.fnScope_by (by decide +kernel)
def sp_answers_that_count (K : PySem.W.Frag) : Sp := fun vs H Q _ => ∃ (l : Addr) (ts : List Addr) (ws : List Wd), vs = [.ref l] ∧ SqL K H l (ts.map V.ref) ∧ TAt H ts ws ∧ ws.length ≤ 200 ∧ Alike ws ∧
  ∀ (H' : Hp) (d : Addr) (kvs : List (List Key × V)), Kx H H' → H d = none → H' d = some (.dT kvs) → AnsD kvs (ansW ws) → Q (.ref d) H'
theorem ok_answers_that_count (D : DefT K mg "answers_that_count" st_answers_that_count c) (T : Tx K mg aA) : C8.Cal P w K mg base 1 "answers_that_count" (sp_answers_that_count K) [] := by
  refine cal_of D sc_answers_that_count (fun _ _ _ _ _ _ us hl => match us, hl with | [_], _ => rfl) (fun vs H Q E h => ?_) (fun f A outer s H vs Q E hr h => ?_)
  · obtain ⟨l, ts, us, rfl, _⟩ := h
    rfl
  · obtain ⟨l, ts, ws, rfl, hl, hw, h200, hal, q⟩ := h
    have nd := sc_answers_that_count.nd
    have hu := hu_of hr
    refine ⟨_, (pss_cons (ps_set (i := 1) nd rfl (Or.inl rfl) pe_dnewT)
      (pss_cons (ps_for PassesOwn.never rfl (pi_list (pe_callB cr_sortedWd (by rfl) T.z_sorted (by decide +kernel) (pa_cons (pv 0) pa_nil))) (pg_name (i := 2) nd rfl (Or.inl rfl)) (pss_cons (ps_asg (pe_slice sl_tup (pv 2) (po_some pe_int) po_none) (pg_tup (by rfl) (pgs_cons (pg_name (i := 3) nd rfl (Or.inl rfl)) (pgs_cons (pg_name (i := 4) nd rfl (Or.inl rfl)) (pgs_cons (pg_name (i := 5) nd rfl (Or.inl rfl)) pgs_nil)))))
      (pss_one (ps_dput hu (pv 1) (pe_tup (pa_cons (pv 3) (pa_cons (pv 4) pa_nil))) (pv 5) rfl))))
      (pss_one (ps_ret (pv 1))))), ?_⟩
    intro d nd0
    have k0 : Kx H (upd H d (.dT [])) := Kx.new nd0
    obtain ⟨qs, eq1, eq2, hqs⟩ := tat_qs (hw.k k0)
    refine ⟨_, rfl, l, ts, wkOf (upd H d (.dT [])), 4, rfl, k0.l hl, by decide, fun t ht => ?_, fun ts' r hperm hsort nr => ?_⟩
    · obtain ⟨q0, hq0, rfl⟩ := List.mem_map.mp (eq1 ▸ ht)
      have e := wkOf_eq (hqs q0 hq0)
      rw [e]
      exact ⟨st_of (hqs q0 hq0), rfl⟩
    obtain ⟨us, hus, hpm, hso⟩ := srt_of hqs (eq1.symm ▸ hperm) hsort
    rw [eq2] at hpm
    have k1 : Kx (upd H d (.dT [])) (upd (upd H d (.dT [])) r (.lst (ts'.map V.ref))) := Kx.new nr
    have hr1 : (upd (upd H d (.dT [])) r (.lst (ts'.map V.ref))) r = some (.lst (ts'.map V.ref)) := upd_same
    have hd1 := k1.dt (show (upd H d (.dT [])) d = some (.dT []) from upd_same)
    have hw1 := hus.k k1
    generalize upd (upd H d (.dT [])) r (.lst (ts'.map V.ref)) = H1 at k1 hr1 hd1 hw1 ⊢
    have k01 := k0.trans k1
    have len := paired_len hw1
    have lus : us.length ≤ 200 := by
      rw [hpm.length_eq]
      exact h200
    refine ⟨r, rfl, ⟨_, sq_of hr1⟩, for_list (K := K) (a := r) (xs := ts'.map V.ref) (fun i σ H2 => ∃ (kvs : List (List Key × V)) (v2 v3 v4 v5 : Option V), σ = [some (.ref l), some (.ref d), v2, v3, v4, v5] ∧ Kx H H2 ∧ H2 r = some (.lst (ts'.map V.ref)) ∧ TAt H2 ts' us ∧
        H2 d = some (.dT kvs) ∧ AnsD kvs (lastA (us.take i)) ∧ kvs.length ≤ i)
      ⟨[], none, none, none, none, rfl, k01, hr1, hw1, hd1, fun p o => rfl, Nat.le_refl _⟩ (fun i σ H2 _ ⟨_, _, _, _, _, _, _, hr2, _⟩ => sq_of hr2) ?_ ?_⟩
    · rintro i y σ H2 hi ⟨kvs, v2, v3, v4, v5, rfl, k2, hr2, hw2, hd2, ha2, hlk⟩
      obtain ⟨t, ht, rfl⟩ : ∃ t, ts'[i]? = some t ∧ V.ref t = y := by
        rw [List.getElem?_map] at hi
        exact Option.map_eq_some_iff.mp hi
      obtain ⟨x, hx, hs2⟩ := paired_at hw2 ht
      have hi2 : i < ts'.length := (List.getElem?_eq_some_iff.mp ht).1
      have e1 : us.take (i + 1) = us.take i ++ [x] := by rw [List.take_add_one, hx] <;> rfl
      refine ⟨_, rfl, 2, rfl, t, _, rfl, st_of hs2, not_whole2b x, fun p np => ?_⟩
      have k3 : Kx H2 (upd H2 p (.tup (cutV x.V (some 2) none))) := Kx.new np
      refine ⟨p, _, rfl, st_of upd_same, by rw [cut2b] <;> rfl, ?_⟩
      rw [cut2b]
      refine ⟨_, _, rfl, _, _, rfl, _, _, rfl, rfl, ?_⟩
      refine ⟨_, rfl, _, rfl, _, rfl, _, rfl, (by show 2 ≤ sizeLine; decide), fun k nk => ?_⟩
      have k4 : Kx (upd H2 p (.tup [.int x.p, .int x.o, .str x.a])) (upd (upd H2 p (.tup [.int x.p, .int x.o, .str x.a])) k (.tup [.int x.p, .int x.o])) := Kx.new nk
      rw [cut2b] at k3
      refine ⟨d, _, rfl, DPut.t (k := kPO x.p x.o) ((k3.trans k4).dt hd2) upd_same (lt80 (by omega)), ?_⟩
      have hd4 := (k3.trans k4).dt hd2
      refine ⟨putK kvs (kPO x.p x.o) (.str x.a), _, _, _, _, rfl, (k2.trans (k3.trans k4)).mut nd0, ?_, ((hw2.k k3).k k4).up hd4 (fun _ z => nomatch z), upd_same, fun p' o' => ?_, ?_⟩
      · have hr4 := (k3.trans k4).lst hr2
        rw [upd_ne (fun z => by rw [z, hd4] at hr4; cases hr4)]
        exact hr4
      · rw [valV_put, e1, lastA_snoc]
        by_cases e : x.p = p' ∧ x.o = o'
        · rw [if_pos e, if_pos (kPO_inj.mpr ⟨e.1.symm, e.2.symm⟩)]
          rfl
        · rw [if_neg e, if_neg (fun z => e ⟨(kPO_inj.mp z).1.symm, (kPO_inj.mp z).2.symm⟩)]
          exact ha2 p' o'
      · have := length_putK kvs (kPO x.p x.o) (.str x.a)
        omega
    · rintro σ H2 ⟨kvs, v2, v3, v4, v5, rfl, k2, hr2, hw2, hd2, ha2, hlk⟩
      rw [List.length_map, len, List.take_length] at ha2
      exact ⟨_, rfl, q H2 d kvs k2 nd0 hd2 fun p o => by rw [ha2 p o, lastA_srt hal hpm hso]⟩
abbrev st_answer_of : Stmt := top 33
abbrev nm_answer_of : List Str := ["person", "hour", "answers"]
theorem sc_answer_of : FnScope nm_answer_of ["person", "hour", "answers"] (defScope st_answer_of) := C8.fnScope_by (by decide +kernel)
def sp_answer_of : Sp := fun vs H Q _ => ∃ (d : Addr) (p o : Int) (kvs : List (List Key × V)) (f : Int → Int → Option Str), vs = [.int p, .int o, .ref d] ∧ H d = some (.dT kvs) ∧ AnsD kvs f ∧ ∀ H', Kx H H' → Q (.str ((f p o).getD "no")) H'
theorem ok_answer_of (D : DefT K mg "answer_of" st_answer_of c) : C8.Cal P w K mg base 1 "answer_of" sp_answer_of [] := by
  refine cal_of D sc_answer_of (fun _ _ _ _ _ _ us hl => match us, hl with | [_, _, _], _ => rfl) (fun vs H Q E h => ?_) (fun fa A outer s H vs Q E hr h => ?_)
  · obtain ⟨d, p, o, kvs, f, rfl, _⟩ := h
    rfl
  · obtain ⟨d, p, o, kvs, f, rfl, hd, hf, q⟩ := h
    have nd := sc_answer_of.nd
    have hu := hu_of hr
    refine ⟨_, (pss_one (ps_ret (pe_dget2 hu (pv 2) (pe_tup (pa_cons (pv 0) (pa_cons (pv 1) pa_nil))) pe_str ⟨rfl, rfl, rfl, rfl⟩))), ?_⟩
    refine ⟨_, rfl, d, rfl, .inr ⟨_, .inl hd⟩, _, rfl, _, rfl, (by show 2 ≤ sizeLine; decide), fun k nk => ?_⟩
    have k3 : Kx H (upd H k (.tup [.int p, .int o])) := Kx.new nk
    refine ⟨_, DGet.t (k := kPO p o) (k3.dt hd) upd_same, ?_⟩
    rw [hf p o]
    have e2 : ((f p o).map V.str).getD (.str "no") = .str ((f p o).getD "no") := by cases f p o <;> rfl
    rw [e2]
    exact q _ k3
end
end CH
end

section
set_option Elab.async false
set_option linter.all false
set_option maxRecDepth 100000
set_option maxHeartbeats 4000000
namespace CH
open PySem PySem.Spec PyProof.Rows L2
open GxR (TabB TabG Tabbed)
section
variable {P : Program} {w : World} {K : PySem.W.Frag} {mg : Str → Option Value} {base : Heap} {c aA cc cm cBo : Addr}
abbrev st_check_hand : Stmt := top 26
abbrev nm_check_hand : List Str := ["hand"]
theorem sc_check_hand : FnScope nm_check_hand ["hand"] (defScope st_check_hand) := C8.fnScope_by (by decide +kernel)
def sp_check_hand : Sp := fun vs H Q _ => ∃ h : Int, vs = [.int h] ∧ 0 ≤ h ∧ h ≤ 3 ∧ Q .non H
theorem ok_check_hand (D : DefT K mg "check_hand" st_check_hand c) (f_is_hand : C8.Cal P w K mg base 3 "is_hand" sp_is_hand []) : C8.Cal P w K mg base 4 "check_hand" sp_check_hand [] := by
  refine cal_of D sc_check_hand (fun _ _ _ _ _ _ us hl => match us, hl with | [_], _ => rfl) (fun vs H Q E h => ?_) (fun f A outer s H vs Q E hr h => ?_)
  · obtain ⟨h, rfl, _⟩ := h
    rfl
  · obtain ⟨h, rfl, h0, h3, q⟩ := h
    refine ⟨_, (pss_one (ps_if (pt_not (pt_val (C8.pe_c f_is_hand hr (by first | decide | exact hkp) (by rfl) (pa_cons (pv 0) pa_nil)))) (pss_one ps_never) pss_nil)), ?_⟩
    refine ⟨_, rfl, h, rfl, ?_⟩
    rw [decide_eq_true ⟨h0, h3⟩]
    exact ⟨true, rfl, iteF q⟩
abbrev st_check_person : Stmt := top 27
abbrev nm_check_person : List Str := ["person"]
theorem sc_check_person : FnScope nm_check_person ["person"] (defScope st_check_person) := C8.fnScope_by (by decide +kernel)
def sp_check_person : Sp := fun vs H Q _ => ∃ h : Int, vs = [.int h] ∧ 0 ≤ h ∧ h ≤ 7 ∧ Q .non H
theorem ok_check_person (D : DefT K mg "check_person" st_check_person c) (f_is_person : C8.Cal P w K mg base 3 "is_person" sp_is_person []) : C8.Cal P w K mg base 4 "check_person" sp_check_person [] := by
  refine cal_of D sc_check_person (fun _ _ _ _ _ _ us hl => match us, hl with | [_], _ => rfl) (fun vs H Q E h => ?_) (fun f A outer s H vs Q E hr h => ?_)
  · obtain ⟨h, rfl, _⟩ := h
    rfl
  · obtain ⟨h, rfl, h0, h3, q⟩ := h
    refine ⟨_, (pss_one (ps_if (pt_not (pt_val (C8.pe_c f_is_person hr (by first | decide | exact hkp) (by rfl) (pa_cons (pv 0) pa_nil)))) (pss_one ps_never) pss_nil)), ?_⟩
    refine ⟨_, rfl, h, rfl, ?_⟩
    rw [decide_eq_true ⟨h0, h3⟩]
    exact ⟨true, rfl, iteF q⟩
abbrev st_check_hour : Stmt := top 28
abbrev nm_check_hour : List Str := ["hour"]
theorem sc_check_hour : FnScope nm_check_hour ["hour"] (defScope st_check_hour) := C8.fnScope_by (by decide +kernel)
def sp_check_hour : Sp := fun vs H Q _ => ∃ h : Int, vs = [.int h] ∧ 0 ≤ h ∧ h ≤ 11 ∧ Q .non H
theorem ok_check_hour (D : DefT K mg "check_hour" st_check_hour c) (f_is_hour : C8.Cal P w K mg base 3 "is_hour" sp_is_hour []) : C8.Cal P w K mg base 4 "check_hour" sp_check_hour [] := by
  refine cal_of D sc_check_hour (fun _ _ _ _ _ _ us hl => match us, hl with | [_], _ => rfl) (fun vs H Q E h => ?_) (fun f A outer s H vs Q E hr h => ?_)
  · obtain ⟨h, rfl, _⟩ := h
    rfl
  · obtain ⟨h, rfl, h0, h3, q⟩ := h
    refine ⟨_, (pss_one (ps_if (pt_not (pt_val (C8.pe_c f_is_hour hr (by first | decide | exact hkp) (by rfl) (pa_cons (pv 0) pa_nil)))) (pss_one ps_never) pss_nil)), ?_⟩
    refine ⟨_, rfl, h, rfl, ?_⟩
    rw [decide_eq_true ⟨h0, h3⟩]
    exact ⟨true, rfl, iteF q⟩
abbrev st_check_answer : Stmt := top 29
abbrev nm_check_answer : List Str := ["answer"]
theorem sc_check_answer : FnScope nm_check_answer ["answer"] (defScope st_check_answer) := C8.fnScope_by (by decide +kernel)
def sp_check_answer : Sp := fun vs H Q _ => ∃ x : Str, vs = [.str x] ∧ x ∈ ansL ∧ Q .non H
theorem ok_check_answer (D : DefT K mg "check_answer" st_check_answer c) (f_is_answer : C8.Cal P w K mg base 1 "is_answer" sp_is_answer []) : C8.Cal P w K mg base 2 "check_answer" sp_check_answer [] := by
  refine cal_of D sc_check_answer (fun _ _ _ _ _ _ us hl => match us, hl with | [_], _ => rfl) (fun vs H Q E h => ?_) (fun f A outer s H vs Q E hr h => ?_)
  · obtain ⟨h, rfl, _⟩ := h
    rfl
  · obtain ⟨x, rfl, hx, q⟩ := h
    refine ⟨_, (pss_one (ps_if (pt_not (pt_val (C8.pe_c f_is_answer hr (by first | decide | exact hkp) (by rfl) (pa_cons (pv 0) pa_nil)))) (pss_one ps_never) pss_nil)), ?_⟩
    refine ⟨_, rfl, x, rfl, ?_⟩
    rw [decide_eq_true hx]
    exact ⟨true, rfl, iteF q⟩
/-- a book: its hand, what it knows -/
structure BookAt (H : Hp) (cBo x dx kn : Addr) (h : Int) (ts : List Addr) (ws : List Wd) : Prop where
  ob : H x = some (.ins cBo dx [("_hand", .int h), ("_known", .ref kn)])
  kn : H kn = some (.lst (ts.map V.ref))
  ws : TAt H ts ws
theorem BookAt.k {H H' : Hp} {cBo x dx kn : Addr} {h : Int} {ts : List Addr} {ws : List Wd} (k : Kx H H') (B : BookAt H cBo x dx kn h ts ws) : BookAt H' cBo x dx kn h ts ws :=
  ⟨k.o _ _ B.ob fun ps z => (by cases z), k.lst B.kn, B.ws.k k⟩
abbrev st_Book_init : Stmt := inClass (top 35) 0
abbrev nm_Book_init : List Str := ["self", "hand"]
theorem sc_Book_init : FnScope nm_Book_init ["self", "hand"] (defScope st_Book_init) := C8.fnScope_by (by decide +kernel)
def sp_Book_init (K : PySem.W.Frag) (cBo : Addr) : Sp := fun vs H Q _ => ∃ (H0 : Hp) (x dx : Addr) (h : Int), vs = [.ref x, .int h] ∧ 0 ≤ h ∧ h ≤ 3 ∧ H = upd (upd H0 dx (.own x)) x (.ins cBo dx []) ∧ H0 x = none ∧ H0 dx = none ∧ dx ≠ x ∧
  ∀ (H' : Hp) (kn : Addr), Kx H0 H' → H0 kn = none → kn ≠ x → BookAt H' cBo x dx kn h [] [] → Q .non H'
theorem ok_Book_init (D : MakT K mg "Book" cBo "Book.__init__" st_Book_init c) (e_Book : Own K mg "Book" cBo) (n1 : NoAttr K cBo "_hand") (n2 : NoAttr K cBo "_known") (f_check_hand : C8.Cal P w K mg base 4 "check_hand" sp_check_hand []) : C8.Mak P w K mg base 5 "Book" cBo (sp_Book_init K cBo) [] := by
  refine mak_of D sc_Book_init (fun _ _ _ _ _ _ us hl => match us, hl with | [_, _], _ => rfl) (fun vs H Q E h => ?_) (fun f A outer s H vs Q E hr h => ?_)
  · obtain ⟨H0, x, dx, h, rfl, _⟩ := h
    rfl
  · obtain ⟨H0, x, dx, h, rfl, h0, h3, rfl, nx, ndx, ndxx, q⟩ := h
    have nd := sc_Book_init.nd
    have k0 : Kx H0 (upd (upd H0 dx (.own x)) x (.ins cBo dx [])) := (Kx.new ndx).mut nx
    have hx0 : (upd (upd H0 dx (.own x)) x (.ins cBo dx [])) x = some (.ins cBo dx []) := upd_same
    refine ⟨_, (pss_cons (ps_expr (C8.pe_c f_check_hand hr (by first | decide | exact hkp) (by rfl) (pa_cons (pv 1) pa_nil)))
      (pss_cons (ps_fld (pv 0) (pv 1) rfl)
      (pss_one (ps_fld (pv 0) (pe_lst pa_nil) rfl)))), ?_⟩
    generalize upd (upd H0 dx (.own x)) x (.ins cBo dx []) = H1 at k0 hx0 ⊢
    refine ⟨_, rfl, h, rfl, h0, h3, ?_⟩
    refine ⟨_, rfl, _, rfl, x, cBo, dx, _, rfl, hx0, e_Book.cl, n1, (by show 0 < 1000; decide), ?_⟩
    rw [show putF ("_hand" : Str) (.int h) [] = [(("_hand" : Str), V.int h)] from rfl]
    have k3 : Kx H0 (upd H1 x (.ins cBo dx [("_hand", .int h)])) := k0.mut nx
    have hx3 : (upd H1 x (.ins cBo dx [("_hand", .int h)])) x = some (.ins cBo dx [("_hand", .int h)]) := upd_same
    generalize upd H1 x (.ins cBo dx [("_hand", .int h)]) = H3 at k3 hx3 ⊢
    refine ⟨Nat.zero_le _, fun kn nkn => ?_⟩
    have nknx : kn ≠ x := fun z => by rw [z, hx3] at nkn; cases nkn
    have k4 : Kx H3 (upd H3 kn (.lst [])) := Kx.new nkn
    have hkn : (upd H3 kn (.lst [])) kn = some (.lst []) := upd_same
    generalize upd H3 kn (.lst []) = H4 at k4 hkn ⊢
    have hx4 := k4.o _ _ hx3 fun ps z => nomatch z
    refine ⟨_, rfl, x, cBo, dx, _, rfl, hx4, e_Book.cl, n2, (by show 1 < 1000; decide), ?_⟩
    rw [show putF ("_known" : Str) (.ref kn) [(("_hand" : Str), V.int h)] = [(("_hand" : Str), V.int h), (("_known" : Str), V.ref kn)] from rfl]
    exact q _ kn ((k3.trans k4).mut nx) (k3.f _ nkn) nknx ⟨upd_same, by rw [upd_ne nknx]; exact hkn, .nil⟩
theorem atI_last {α : Type} {xs : List α} {x : α} (h : xs[xs.length - 1]? = some x) : atI xs (-1) = some x := by
  have hl := (List.getElem?_eq_some_iff.mp h).1
  unfold atI ixN
  rw [if_neg (by decide), if_pos (by omega)]
  show xs[((xs.length : Int) + -1).toNat]? = some x
  rw [show ((xs.length : Int) + -1).toNat = xs.length - 1 by omega]
  exact h
theorem seq_asg {t : TE} {g : TG} {rest : TS} {D : Ends} {σ : L2.St} {H : Hp} (v : V) (h1 : ∀ Q : VK, Q v H → t σ H Q) (h2 : tSeq (tAsg (tC v) g) rest D σ H) : tSeq (tAsg t g) rest D σ H := h1 _ h2
abbrev st_Book_answer : Stmt := inClass (top 35) 1
abbrev nm_Book_answer : List Str := ["self", "person", "hour", "word", "count"]
theorem sc_Book_answer : FnScope nm_Book_answer ["self", "person", "hour", "word"] (defScope st_Book_answer) := C8.fnScope_by (by decide +kernel)
def sp_answer (K : PySem.W.Frag) (cBo cT : Addr) : Sp := fun vs H Q E => ∃ (x dx kn : Addr) (h p o : Int) (a : Str) (ts : List Addr) (ws : List Wd), vs = [.ref x, .int p, .int o, .str a] ∧ BookAt H cBo x dx kn h ts ws ∧ 0 ≤ p ∧ p ≤ 7 ∧ 0 ≤ o ∧ o ≤ 11 ∧ a ∈ ansL ∧ ws.length ≤ 80 ∧
  (nextC ws ≤ 99 ∧ ws.length < 80 → ∀ (H' : Hp) (t : Addr), Ke [kn] H H' → H t = none → BookAt H' cBo x dx kn h (ts ++ [t]) (ws ++ [⟨nextC ws, h, p, o, a⟩]) → Q (.int (nextC ws)) H') ∧
  (¬ (nextC ws ≤ 99 ∧ ws.length < 80) → ∀ H', Kx H H' → E (.ref cT) none H')
theorem ok_answer {cT : Addr} (D : MetT K cBo "answer" "Book.answer" st_Book_answer c) (T : Tx K mg aA) (e_Book : Own K mg "Book" cBo) (n1 : NoAttr K cBo "_hand") (n2 : NoAttr K cBo "_known") (e_TooMany : Exn K mg "TooMany" cT)
    (f_check_person : C8.Cal P w K mg base 4 "check_person" sp_check_person []) (f_check_hour : C8.Cal P w K mg base 4 "check_hour" sp_check_hour []) (f_check_answer : C8.Cal P w K mg base 2 "check_answer" sp_check_answer []) : MetX P w K mg base 5 cBo "answer" (sp_answer K cBo cT) := by
  refine metX_of D sc_Book_answer (fun _ _ _ _ _ _ us hl => match us, hl with | [_, _, _, _], _ => rfl) (fun vs H Q E h => ?_) (fun f A outer s H vs Q E hr h => ?_)
  · obtain ⟨x, dx, kn, h, p, o, a, ts, ws, rfl, _⟩ := h
    rfl
  · obtain ⟨x, dx, kn, h, p, o, a, ts, ws, rfl, B, p0, p7, o0, o11, ha, l80, q, qt⟩ := h
    have nd := sc_Book_answer.nd
    have hu := hu_of hr
    refine ⟨_, (pss_cons (ps_expr (C8.pe_c f_check_person hr (by first | decide | exact hkp) (by rfl) (pa_cons (pv 1) pa_nil)))
      (pss_cons (ps_expr (C8.pe_c f_check_hour hr (by first | decide | exact hkp) (by rfl) (pa_cons (pv 2) pa_nil)))
      (pss_cons (ps_expr (C8.pe_c f_check_answer hr (by first | decide | exact hkp) (by rfl) (pa_cons (pv 3) pa_nil)))
      (pss_cons (ps_set (i := 4) nd rfl (Or.inl rfl) (pe_ifExp (pt_truth (pe_fld (pv 0) rfl) (by intro _; rfl)) (pe_op op_add (pe_ix ix_tup (pe_ix ix_list (pe_fld (pv 0) rfl) (pe_un un_neg pe_int) (fun _ _ => rfl)) pe_int (fun _ _ => rfl)) pe_int) pe_int))
      (pss_cons (ps_if (PW.pt (pw_or (pt_cmpR op_gt (pv 4) (C8.pe_gc (by rfl) T.c_COUNTS) (nomark _)) (pw_or1 (pt_cmpR op_ge (pe_callB call_len_seq (by rfl) T.z_len PySem.boot_len (pa_cons (pe_fld (pv 0) rfl) pa_nil)) (C8.pe_gc (by rfl) T.c_MOST_WORDS) (nomark _))))) (pss_one (L2N.ps_raise rfl (L2N.takes_of rfl rfl rfl rfl) (L2N.pmk_own PySem.F.excBase_ValueError e_TooMany.q e_TooMany.g e_TooMany.k (raises_own e_TooMany.b e_TooMany.t) (by rfl)))) pss_nil)
      (pss_cons (ps_expr (pe_bm PySem.F.plainAttrs_list PySem.F.slot_list_append PySem.F.type_list_append mt_append (pe_fld (pv 0) rfl) (pa_cons (pe_tup (pa_cons (pv 4) (pa_cons (pe_fld (pv 0) rfl) (pa_cons (pv 1) (pa_cons (pv 2) (pa_cons (pv 3) pa_nil)))))) pa_nil)))
      (pss_one (ps_ret (pv 4))))))))), ?_⟩
    refine ⟨_, rfl, p, rfl, p0, p7, _, rfl, o, rfl, o0, o11, _, rfl, a, rfl, ha, ?_⟩
    have lws := paired_len B.ws
    dsimp only
    show tSeq (tAsg _ _) _ _ _ _
    refine seq_asg (.int (nextC ws)) (fun Q' hq => ?_) ?_
    · refine ⟨_, rfl, x, cBo, dx, _, _, rfl, B.ob, e_Book.cl, n2, rfl, _, .inl ⟨_, sq_of B.kn, rfl⟩, ?_⟩
      by_cases e : ws = []
      · subst e
        obtain rfl : ts = [] := List.length_eq_zero_iff.mp lws
        exact iteF hq
      · have l0 := List.length_pos_iff.mpr e
        obtain ⟨t, ht⟩ : ∃ t, ts[ts.length - 1]? = some t := ⟨_, List.getElem?_eq_getElem (by omega)⟩
        obtain ⟨w, hw, hwt⟩ := paired_at B.ws ht
        have el : nextC ws = w.c + 1 := by
          unfold nextC
          rw [List.getLast?_eq_getElem?, ← lws, hw]
        rw [el] at hq
        rw [show (!(ts.map V.ref).isEmpty) = true from by cases ts with | nil => exact absurd lws (by show ¬ 0 = _; omega) | cons => rfl]
        refine iteT ?_
        refine ⟨_, rfl, x, cBo, dx, _, _, rfl, B.ob, e_Book.cl, n2, rfl, _, rfl, kn, _, _, .ref t, rfl, rfl, sq_of B.kn, atI_last (by rw [List.length_map, List.getElem?_map, ht] <;> rfl), t, _, 0, .int w.c, rfl, rfl, st_of hwt, atI_nat (xs := w.V) (j := 0) rfl, _, _, rfl, rfl, hq⟩
    refine ⟨_, rfl, _, _, rfl, rfl, _, rfl, ?_⟩
    by_cases c1 : nextC ws > 99
    · rw [decide_eq_true c1]
      exact iteT (iteT (qt (fun z => by omega) H (Kx.refl H)))
    rw [decide_eq_false c1]
    refine iteF ⟨_, rfl, x, cBo, dx, _, _, rfl, B.ob, e_Book.cl, n2, rfl, kn, _, rfl, .inl (sq_of B.kn), _, _, rfl, rfl, _, rfl, ?_⟩
    dsimp only
    rw [List.length_map, lws]
    by_cases c2 : (80 : Int) ≤ ws.length
    · rw [decide_eq_true c2]
      exact iteT (qt (fun z => by omega) H (Kx.refl H))
    rw [decide_eq_false c2]
    refine iteF ?_
    refine ⟨_, rfl, x, cBo, dx, _, _, rfl, B.ob, e_Book.cl, n2, rfl, .inl ⟨rfl, _, sq_of B.kn⟩, ?_⟩
    refine ⟨_, rfl, _, rfl, x, cBo, dx, _, _, rfl, B.ob, e_Book.cl, n1, rfl, _, rfl, _, rfl, _, rfl, (by show 5 ≤ sizeLine; decide), fun t nt => ?_⟩
    rw [show ([.int (nextC ws), .int h, .int p, .int o, .str a] : List V) = Wd.V ⟨nextC ws, h, p, o, a⟩ from rfl]
    have k1 : Kx H (upd H t (.tup (Wd.V ⟨nextC ws, h, p, o, a⟩))) := Kx.new nt
    have ht : (upd H t (.tup (Wd.V ⟨nextC ws, h, p, o, a⟩))) t = some (.tup (Wd.V ⟨nextC ws, h, p, o, a⟩)) := upd_same
    generalize upd H t (.tup (Wd.V ⟨nextC ws, h, p, o, a⟩)) = H1 at k1 ht ⊢
    have B1 := B.k k1
    refine ⟨kn, _, _, rfl, rfl, B1.kn, lt80 (by rw [List.length_map, lws]; omega), ?_⟩
    refine ⟨_, rfl, ?_⟩
    have nkx : x ≠ kn := fun z => by
      have e1 := B1.ob
      rw [z, B1.kn] at e1
      cases e1
    refine q ⟨by omega, by omega⟩ _ t (k1.ke.mut (List.mem_singleton.mpr rfl)) nt ⟨by rw [upd_ne nkx]; exact B1.ob, by rw [upd_same, List.map_append] <;> rfl, ?_⟩
    exact paired_snoc (B1.ws.up B1.kn fun ys y => (by cases y)) (by rw [upd_ne (fun z => by rw [z, B1.kn] at ht; cases ht)]; exact ht)
/-- .. where there is room -/
def sp_answer0 (K : PySem.W.Frag) (cBo : Addr) : Sp := fun vs H Q _ => ∃ (x dx kn : Addr) (h p o : Int) (a : Str) (ts : List Addr) (ws : List Wd), vs = [.ref x, .int p, .int o, .str a] ∧ BookAt H cBo x dx kn h ts ws ∧ 0 ≤ p ∧ p ≤ 7 ∧ 0 ≤ o ∧ o ≤ 11 ∧ a ∈ ansL ∧ nextC ws ≤ 99 ∧ ws.length < 80 ∧
  ∀ (H' : Hp) (t : Addr), Ke [kn] H H' → H t = none → BookAt H' cBo x dx kn h (ts ++ [t]) (ws ++ [⟨nextC ws, h, p, o, a⟩]) → Q (.int (nextC ws)) H'
theorem answer0 {cT : Addr} (f : MetX P w K mg base 5 cBo "answer" (sp_answer K cBo cT)) : C8.Met P w K mg base 5 cBo "answer" (sp_answer0 K cBo) [] :=
  f.met fun vs H Q E ⟨x, dx, kn, h, p, o, a, ts, ws, e, B, p0, p7, o0, o11, ha, n99, l80, q⟩ => ⟨x, dx, kn, h, p, o, a, ts, ws, e, B, p0, p7, o0, o11, ha, by omega, fun _ => q, fun z => absurd ⟨n99, l80⟩ z⟩
abbrev st_Book_hear : Stmt := inClass (top 35) 2
abbrev nm_Book_hear : List Str := ["self", "words", "known", "new"]
theorem sc_Book_hear : FnScope nm_Book_hear ["self", "words"] (defScope st_Book_hear) := C8.fnScope_by (by decide +kernel)
def sp_hear (K : PySem.W.Frag) (cBo cB cU cT : Addr) : Sp := fun vs H Q E => ∃ (x dx kn l2 : Addr) (h : Int) (ts : List Addr) (ws us : List Wd), vs = [.ref x, .ref l2] ∧ BookAt H cBo x dx kn h ts ws ∧ WsAt K H l2 us ∧ Good ws ∧ Good us ∧ Alike ws ∧ Alike us ∧
  (Alike (ws ++ us) → ∀ vs, Once (ws ++ us) vs → vs.length ≤ 80 → ∀ (H' : Hp) (r : Addr) (ts' : List Addr), Ke [x] H H' → H r = none → BookAt H' cBo x dx r h ts' vs → Q (.int ((vs.length : Int) - ws.length)) H') ∧
  (¬ Alike (ws ++ us) → ∀ H', Kx H H' → E (.ref cU) none H') ∧
  (Alike (ws ++ us) → ∀ vs, Once (ws ++ us) vs → 80 < vs.length → ∀ H', Kx H H' → E (.ref cT) none H')
theorem ok_hear {cB cU cT : Addr} (D : MetT K cBo "hear" "Book.hear" st_Book_hear c) (T : Tx K mg aA) (e_Book : Own K mg "Book" cBo) (n2 : NoAttr K cBo "_known") (f_joined : CalX P w K mg base 7 "joined" (sp_joined K cB cU cT)) : MetX P w K mg base 8 cBo "hear" (sp_hear K cBo cB cU cT) := by
  refine metX_of D sc_Book_hear (fun _ _ _ _ _ _ us hl => match us, hl with | [_, _], _ => rfl) (fun vs H Q E h => ?_) (fun f A outer s H vs Q E hr h => ?_)
  · obtain ⟨x, dx, kn, l2, h, ts, ws, us, rfl, _⟩ := h
    rfl
  · obtain ⟨x, dx, kn, l2, h, ts, ws, us, rfl, B, hl2, g1, g2, a1, a2, q, qu, qt⟩ := h
    have nd := sc_Book_hear.nd
    have hu := hu_of hr
    refine ⟨_, (pss_cons (ps_set (i := 2) nd rfl (Or.inl rfl) (pe_cX f_joined hr (by decide) (by rfl) (L2N.takes_of rfl rfl rfl rfl) (pa_cons (pe_fld (pv 0) rfl) (pa_cons (pv 1) pa_nil))))
      (pss_cons (ps_set (i := 3) nd rfl (Or.inl rfl) (pe_op op_sub (pe_callB call_len_seq (by rfl) T.z_len PySem.boot_len (pa_cons (pv 2) pa_nil)) (pe_callB call_len_seq (by rfl) T.z_len PySem.boot_len (pa_cons (pe_fld (pv 0) rfl) pa_nil))))
      (pss_cons (ps_fld (pv 0) (pv 2) rfl)
      (pss_one (ps_ret (pv 3)))))), ?_⟩
    have l1 := g1.1
    have l2' := g2.1
    refine ⟨_, rfl, x, cBo, dx, _, _, rfl, B.ob, e_Book.cl, n2, rfl, _, rfl, kn, l2, ws, us, rfl, ⟨ts, sq_of B.kn, B.ws.w⟩, hl2, by omega, by omega, fun _ _ al vs ho le H1 r ts' k1 nr hr ht => ?_, fun z => ?_, fun z => ?_, fun _ _ al vs ho big H1 k1 => qt al vs ho big H1 k1⟩
    · have lvs := paired_len ht
      have lws := paired_len B.ws
      have B1 := B.k k1
      refine ⟨_, rfl, r, _, rfl, .inl (sq_of hr), _, rfl, x, cBo, dx, _, _, rfl, B1.ob, e_Book.cl, n2, rfl, kn, _, rfl, .inl (sq_of B1.kn), _, _, rfl, rfl, ?_⟩
      rw [List.length_map, List.length_map, lvs, lws]
      have nrx : r ≠ x := fun z => by rw [z, B.ob] at nr; cases nr
      refine ⟨_, rfl, _, rfl, x, cBo, dx, _, rfl, B1.ob, e_Book.cl, n2, (by show 2 < 1000; decide), ?_⟩
      rw [show putF ("_known" : Str) (.ref r) [(("_hand" : Str), V.int h), (("_known" : Str), V.ref kn)] = [(("_hand" : Str), V.int h), (("_known" : Str), V.ref r)] from rfl]
      refine ⟨_, rfl, ?_⟩
      refine q al vs ho le _ r ts' (k1.ke.mut (List.mem_singleton.mpr rfl)) nr ⟨upd_same, by rw [upd_ne nrx]; exact hr, ?_⟩
      exact ht.up B1.ob fun ys y => (by cases y)
    · rcases z with z | ⟨_, _, z⟩
      · exact absurd g1 z
      · exact absurd g2 z
    · rcases z.2 with z | ⟨_, z⟩
      · exact absurd a1 z
      · exact qu z
def sp_hear0 (K : PySem.W.Frag) (cBo : Addr) : Sp := fun vs H Q E => ∃ (x dx kn l2 : Addr) (h : Int) (ts : List Addr) (ws us ds : List Wd), vs = [.ref x, .ref l2] ∧ BookAt H cBo x dx kn h ts ws ∧ WsAt K H l2 us ∧ Good ws ∧ Good us ∧ Alike (ws ++ us) ∧ Once (ws ++ us) ds ∧ ds.length ≤ 80 ∧
  ∀ (H' : Hp) (r : Addr) (ts' : List Addr), Ke [x] H H' → H r = none → BookAt H' cBo x dx r h ts' ds → Q (.int ((ds.length : Int) - ws.length)) H'
theorem hear0 {cB cU cT : Addr} (f : MetX P w K mg base 8 cBo "hear" (sp_hear K cBo cB cU cT)) : C8.Met P w K mg base 8 cBo "hear" (sp_hear0 K cBo) [] :=
  f.met fun vs H Q E ⟨x, dx, kn, l2, h, ts, ws, us, ds, e, B, hl, g1, g2, al, ho, l80, q⟩ => ⟨x, dx, kn, l2, h, ts, ws, us, e, B, hl, g1, g2, fun a ha b hb => al a (List.mem_append_left _ ha) b (List.mem_append_left _ hb), fun a ha b hb => al a (List.mem_append_right _ ha) b (List.mem_append_right _ hb),
    fun _ vs hv _ H' r ts' k n B' => by
      obtain rfl := once_uniq ho hv
      exact q H' r ts' k n B',
    fun z => absurd al z, fun _ vs hv big => by
      rw [once_uniq hv ho] at big
      omega⟩
abbrev st_Book_all_words : Stmt := inClass (top 35) 3
abbrev nm_Book_all_words : List Str := ["self"]
theorem sc_Book_all_words : FnScope nm_Book_all_words ["self"] (defScope st_Book_all_words) := C8.fnScope_by (by decide +kernel)
def sp_all_words (K : PySem.W.Frag) (cBo : Addr) : Sp := fun vs H Q _ => ∃ (x dx kn : Addr) (h : Int) (ts : List Addr) (ws : List Wd), vs = [.ref x] ∧ BookAt H cBo x dx kn h ts ws ∧
  ∀ (H' : Hp) (r : Addr), Kx H H' → H r = none → H' r = some (.lst (ts.map V.ref)) → Q (.ref r) H'
theorem ok_all_words (D : MetT K cBo "all_words" "Book.all_words" st_Book_all_words c) (T : Tx K mg aA) (e_Book : Own K mg "Book" cBo) (n2 : NoAttr K cBo "_known") : C8.Met P w K mg base 1 cBo "all_words" (sp_all_words K cBo) [] := by
  refine met_of D sc_Book_all_words (fun _ _ _ _ _ _ us hl => match us, hl with | [_], _ => rfl) (fun vs H Q E h => ?_) (fun f A outer s H vs Q E hr h => ?_)
  · obtain ⟨x, dx, kn, h, ts, ws, rfl, _⟩ := h
    rfl
  · obtain ⟨x, dx, kn, h, ts, ws, rfl, B, q⟩ := h
    have nd := sc_Book_all_words.nd
    refine ⟨_, (pss_one (ps_ret (pe_callTy call_list_of (by rfl) T.z_list (by decide +kernel) (pa_cons (pe_fld (pv 0) rfl) pa_nil)))), ?_⟩
    refine ⟨_, rfl, x, cBo, dx, _, _, rfl, B.ob, e_Book.cl, n2, rfl, kn, _, rfl, .inl (sq_of B.kn), fun r nr => ?_⟩
    exact q _ r (Kx.new nr) nr upd_same
abbrev st_Book_says : Stmt := inClass (top 35) 4
abbrev nm_Book_says : List Str := ["self", "person", "hour"]
theorem sc_Book_says : FnScope nm_Book_says ["self", "person", "hour"] (defScope st_Book_says) := C8.fnScope_by (by decide +kernel)
def sp_says (K : PySem.W.Frag) (cBo : Addr) : Sp := fun vs H Q _ => ∃ (x dx kn : Addr) (h p o : Int) (ts : List Addr) (ws : List Wd), vs = [.ref x, .int p, .int o] ∧ BookAt H cBo x dx kn h ts ws ∧ 0 ≤ p ∧ p ≤ 7 ∧ 0 ≤ o ∧ o ≤ 11 ∧ ws.length ≤ 200 ∧ Alike ws ∧
  ∀ (H' : Hp), Kx H H' → Q (.str (ansF ws p o)) H'
theorem ok_says (D : MetT K cBo "says" "Book.says" st_Book_says c) (T : Tx K mg aA) (e_Book : Own K mg "Book" cBo) (n2 : NoAttr K cBo "_known") (f_check_person : C8.Cal P w K mg base 4 "check_person" sp_check_person []) (f_check_hour : C8.Cal P w K mg base 4 "check_hour" sp_check_hour [])
    (f_answers_that_count : C8.Cal P w K mg base 1 "answers_that_count" (sp_answers_that_count K) []) (f_answer_of : C8.Cal P w K mg base 1 "answer_of" sp_answer_of []) : C8.Met P w K mg base 5 cBo "says" (sp_says K cBo) [] := by
  refine met_of D sc_Book_says (fun _ _ _ _ _ _ us hl => match us, hl with | [_, _, _], _ => rfl) (fun vs H Q E h => ?_) (fun f A outer s H vs Q E hr h => ?_)
  · obtain ⟨x, dx, kn, h, p, o, ts, ws, rfl, _⟩ := h
    rfl
  · obtain ⟨x, dx, kn, h, p, o, ts, ws, rfl, B, p0, p7, o0, o11, l200, al, q⟩ := h
    have nd := sc_Book_says.nd
    refine ⟨_, (pss_cons (ps_expr (C8.pe_c f_check_person hr (by first | decide | exact hkp) (by rfl) (pa_cons (pv 1) pa_nil)))
      (pss_cons (ps_expr (C8.pe_c f_check_hour hr (by first | decide | exact hkp) (by rfl) (pa_cons (pv 2) pa_nil)))
      (pss_one (ps_ret (C8.pe_c f_answer_of hr (by first | decide | exact hkp) (by rfl) (pa_cons (pv 1) (pa_cons (pv 2) (pa_cons (C8.pe_c f_answers_that_count hr (by first | decide | exact hkp) (by rfl) (pa_cons (pe_fld (pv 0) rfl) pa_nil)) pa_nil)))))))), ?_⟩
    refine ⟨_, rfl, p, rfl, p0, p7, _, rfl, o, rfl, o0, o11, ?_⟩
    refine ⟨_, rfl, _, rfl, _, rfl, x, cBo, dx, _, _, rfl, B.ob, e_Book.cl, n2, rfl, kn, ts, ws, rfl, sq_of B.kn, B.ws, l200, al, fun H1 d kvs k1 nd1 hd1 ha1 => ?_⟩
    exact ⟨d, p, o, kvs, ansW ws, rfl, hd1, ha1, fun H2 k2 => q H2 (k1.trans k2)⟩
end
end CH
end

section
set_option Elab.async false
set_option linter.all false
set_option maxRecDepth 100000
set_option maxHeartbeats 4000000
namespace CH
open PySem PySem.Spec PyProof.Rows L2
open GxR (TabB TabG Tabbed)
/-- below so many bits -/
def Bits (i : Int) (n : Nat) : Prop := i.natAbs < 2 ^ n
theorem Bits.mono {i : Int} {n m : Nat} (h : Bits i n) (l : n ≤ m) : Bits i m := Nat.lt_of_lt_of_le h (Nat.pow_le_pow_right (by decide) l)
theorem Bits.add {i j : Int} {n m k : Nat} (h1 : Bits i n) (h2 : Bits j m) (hn : n + 1 ≤ k) (hm : m + 1 ≤ k) : Bits (i + j) k := by
  have a := h1.mono (show n ≤ k - 1 by omega)
  have b := h2.mono (show m ≤ k - 1 by omega)
  have e : 2 ^ k = 2 ^ (k - 1) + 2 ^ (k - 1) := by
    have : k = (k - 1) + 1 := by omega
    rw [this, Nat.pow_succ]
    simp only [Nat.add_sub_cancel]
    omega
  have t := Int.natAbs_add_le i j
  unfold Bits at a b ⊢
  rw [e]
  omega
theorem Bits.mul {i j : Int} {n m k : Nat} (h1 : Bits i n) (h2 : Bits j m) (hk : n + m ≤ k) : Bits (i * j) k := by
  have z : Bits (i * j) (n + m) := by
    unfold Bits at h1 h2 ⊢
    rw [Int.natAbs_mul, Nat.pow_add]
    exact Nat.mul_lt_mul'' h1 h2
  exact z.mono hk
theorem Bits.of {i : Int} {n : Nat} (h1 : 0 ≤ i) (h2 : i < 2 ^ n) : Bits i n := by
  unfold Bits
  have e : ((i.natAbs : Nat) : Int) = i := Int.natAbs_of_nonneg h1
  have h3 : ((i.natAbs : Nat) : Int) < ((2 ^ n : Nat) : Int) := by
    rw [e]
    have : ((2 ^ n : Nat) : Int) = (2 : Int) ^ n := by simp
    rw [this]
    exact h2
  exact Int.ofNat_lt.mp h3
section
variable {P : Program} {w : World} {K : PySem.W.Frag} {mg : Str → Option Value} {base : Heap} {c aA cc cm : Addr}
abbrev st_law_number : Stmt := top 37
abbrev nm_law_number : List Str := ["_law_cell", "_law_at", "_law_whole", "_law_blend", "_law_more"]
theorem sc_law_number : FnScope nm_law_number ["_law_cell", "_law_at", "_law_whole"] (defScope st_law_number) := C8.fnScope_by (by decide +kernel)
def sp_law_number : Sp := fun vs H Q _ => ∃ (ce at_ wh : Int), vs = [.int ce, .int at_, .int wh] ∧ Bits ce 2000000 ∧ 0 ≤ at_ ∧ at_ ≤ 100000 ∧ ∀ r : Int, Q (.int r) H
theorem ok_law_number (D : DefT K mg "_law_number" st_law_number c) : C8.Cal P w K mg base 1 "_law_number" sp_law_number [] := by
  refine cal_of D sc_law_number (fun _ _ _ _ _ _ us hl => match us, hl with | [_, _, _], _ => rfl) (fun vs H Q E h => ?_) (fun f A outer s H vs Q E hr h => ?_)
  · obtain ⟨ce, at_, wh, rfl, _⟩ := h
    rfl
  · obtain ⟨ce, at_, wh, rfl, hb, h0, h1, q⟩ := h
    have nd := sc_law_number.nd
    refine ⟨_, (pss_cons (ps_if (pt_cmpR op_ge (pv 0) (pe_op op_pow pe_int pe_int) (nomark _)) (pss_one (ps_ret (pe_op op_fdiv (pv 0) (pe_op op_add pe_int (pe_op op_mod (pv 1) pe_int))))) pss_nil)
      (pss_cons (ps_set (i := 3) nd rfl (Or.inl rfl) (pe_op op_mod (pe_op op_add (pe_op op_mul (pe_op op_add (pv 0) (pe_op op_mul pe_int (pv 1))) pe_int) (pv 2)) pe_int))
      (pss_cons (ps_set (i := 4) nd rfl (Or.inl rfl) (pe_op op_mul (pv 3) (pe_op op_add (pe_op op_add (pv 0) (pe_op op_mul pe_int (pv 1))) pe_int)))
      (pss_one (ps_ret (pe_op op_fdiv (pe_op op_mul (pe_op op_mulH (pv 4) (pe_op op_add (pe_op op_add (pv 3) (pv 0)) pe_int)) (pe_op op_add (pe_op op_mul (pv 3) (pv 3)) pe_int)) (pe_op op_add pe_int (pv 1)))))))), ?_⟩
    refine ⟨_, rfl, _, _, rfl, rfl, ⟨by decide, by decide, by decide⟩, _, _, rfl, rfl, _, rfl, iteB (fun z => ?_) (fun z => ?_)⟩
    · refine ⟨_, rfl, _, rfl, _, _, rfl, rfl, (by show (0 : Int) < 7; decide), _, _, rfl, rfl, ?_⟩
      have a1 : 0 ≤ at_ % 7 := Int.emod_nonneg _ (by decide)
      have a2 : at_ % 7 < 7 := Int.emod_lt_of_pos _ (by decide)
      exact ⟨_, _, rfl, rfl, ⟨by omega, by omega⟩, q _⟩
    · refine ⟨_, rfl, _, rfl, _, _, rfl, rfl, .inl ⟨by decide, by decide⟩, _, _, rfl, rfl, _, _, rfl, rfl, .inr ⟨by decide, by decide⟩, _, rfl, _, _, rfl, rfl, _, _, rfl, rfl, (by show (0 : Int) < 2147483647; decide), ?_⟩
      dsimp only
      generalize hbl : ((ce + 977 * at_) * 48271 + wh) % 2147483647 = bl
      have b1 : 0 ≤ bl := by rw [← hbl]; exact Int.emod_nonneg _ (by decide)
      have b2 : bl < 2147483647 := by rw [← hbl]; exact Int.emod_lt_of_pos _ (by decide)
      have bb : Bits bl 31 := Bits.of b1 (by omega)
      refine ⟨_, rfl, _, rfl, _, rfl, _, _, rfl, rfl, .inl ⟨by decide, by decide⟩, _, _, rfl, rfl, _, _, rfl, rfl, _, _, rfl, rfl, .inl ⟨by omega, by omega⟩, ?_⟩
      have c1 : Bits (31 * at_) 40 := Bits.of (by omega) (by omega)
      have c2 : Bits (7 : Int) 10 := Bits.of (by decide) (by decide)
      have c3 : Bits (5 : Int) 10 := Bits.of (by decide) (by decide)
      have m1 : Bits (bl * (ce + 31 * at_ + 7)) 2000040 := bb.mul ((hb.add c1 (k := 2000001) (by omega) (by omega)).add c2 (k := 2000002) (by omega) (by omega)) (by omega)
      have m2 : Bits (bl + ce + 5) 2000002 := ((bb.add hb (k := 2000001) (by omega) (by omega)).add c3 (by omega) (by omega))
      have m3 : 0 ≤ bl * bl := Int.mul_nonneg b1 b1
      have m4 : bl * bl ≤ 2147483647 * 2147483647 := Int.mul_le_mul (by omega) (by omega) b1 (by decide)
      refine ⟨_, rfl, _, rfl, _, rfl, _, _, rfl, rfl, _, _, rfl, rfl, _, _, rfl, rfl, huge_mul (a := 2000040) (b := 2000002) m1 m2 (by decide) (by decide) (by decide), _, rfl, _, rfl, _, _, rfl, rfl, .inl ⟨by omega, by omega⟩, _, _, rfl, rfl, _, _, rfl, rfl, .inr ⟨by omega, by omega⟩, _, rfl, _, _, rfl, rfl, ?_⟩
      exact ⟨_, _, rfl, rfl, ⟨by omega, by omega⟩, q _⟩
end
end CH
end

section
set_option Elab.async false
set_option linter.all false
set_option maxRecDepth 100000
set_option maxHeartbeats 4000000
namespace CH
open PySem PySem.Spec PyProof.Rows L2
open GxR (TabB TabG Tabbed)
section
variable {P : Program} {w : World} {K : PySem.W.Frag} {mg : Str → Option Value} {base : Heap} {c aA cc cm : Addr}
end
end CH
end

section
set_option Elab.async false
set_option linter.all false
set_option maxRecDepth 100000
set_option maxHeartbeats 4000000
namespace CH
open PySem PySem.Spec PyProof.Rows L2
open GxR (TabB TabG Tabbed)
/-- the dict of the greatest pairs -/
def BestD (H : Hp) (kvs : List (List Key × V)) (ws : List Wd) : Prop := ∀ p o, (bestW ws p o = none ∧ valV kvs (kPO p o) = none) ∨ ∃ x t, bestW ws p o = some x ∧ valV kvs (kPO p o) = some (.ref t) ∧ H t = some (.tup [.int x.c, .int x.h])
theorem lexAt2 (a b c d : Int) : Ob.lexAt (fun j => decide ([a, b].getD j 0 = [c, d].getD j 0)) (fun j => decide ([a, b].getD j 0 ≤ [c, d].getD j 0)) (decide ([a, b].length ≤ [c, d].length)) 0 (min [a, b].length [c, d].length) = decide (a < c ∨ (a = c ∧ b ≤ d)) := by
  show Ob.lexAt (fun j => decide ([a, b].getD j 0 = [c, d].getD j 0)) (fun j => decide ([a, b].getD j 0 ≤ [c, d].getD j 0)) (decide (2 ≤ 2)) 0 2 = _
  rw [Ob.lexAt_succ, Ob.lexAt_succ, Ob.lexAt_zero]
  show (if decide (a = c) = true then (if decide (b = d) = true then decide (2 ≤ 2) else decide (b ≤ d)) else decide (a ≤ c)) = _
  by_cases e : a = c
  · by_cases e2 : b = d
    · simp [e, e2]
    · have e3 : ¬ c < c := Int.lt_irrefl c
      simp [e, e2, e3]
  · simp only [decide_eq_true_eq, if_neg e]
    refine decide_eq_decide.mpr ?_
    omega
section
variable {P : Program} {w : World} {K : PySem.W.Frag} {mg : Str → Option Value} {base : Heap} {c aA cc cm : Addr}
abbrev st_law_answers : Stmt := top 39
abbrev nm_law_answers : List Str := ["_law_words_here", "_law_found", "_law_best", "_law_count", "_law_hand", "_law_person", "_law_hour", "_law_word"]
theorem sc_law_answers : FnScope nm_law_answers ["_law_words_here"] (defScope st_law_answers) := C8.fnScope_by (by decide +kernel)
def sp_law_answers (K : PySem.W.Frag) : Sp := fun vs H Q _ => ∃ (l : Addr) (ws : List Wd), vs = [.ref l] ∧ WsAt K H l ws ∧ ws.length ≤ 200 ∧ (∀ x ∈ ws, x.ok) ∧
  ∀ (H' : Hp) (d : Addr) (kvs : List (List Key × V)), Kx H H' → H d = none → H' d = some (.dT kvs) → AnsD kvs (ansW ws) → Q (.ref d) H'
theorem ok_law_answers (D : DefT K mg "_law_answers" st_law_answers c) : C8.Cal P w K mg base 1 "_law_answers" (sp_law_answers K) [] := by
  refine cal_of D sc_law_answers (fun _ _ _ _ _ _ us hl => match us, hl with | [_], _ => rfl) (fun vs H Q E h => ?_) (fun f A outer s H vs Q E hr h => ?_)
  · obtain ⟨l, ws, rfl, _⟩ := h
    rfl
  · obtain ⟨l, ws, rfl, ⟨ts, hl, hw⟩, h200, hok, q⟩ := h
    have nd := sc_law_answers.nd
    have hu := hu_of hr
    have len := paired_len hw
    refine ⟨_, (pss_cons (ps_par (i := 1) (j := 2) (by rfl) nd rfl rfl (by decide) rfl rfl (pa_cons pe_dnewT (pa_cons pe_dnewT pa_nil)) (by rfl))
      (pss_cons (ps_for PassesOwn.never rfl (pi_list (pv 0)) (pg_tup (by rfl) (pgs_cons (pg_name (i := 3) nd rfl (Or.inl rfl)) (pgs_cons (pg_name (i := 4) nd rfl (Or.inl rfl)) (pgs_cons (pg_name (i := 5) nd rfl (Or.inl rfl)) (pgs_cons (pg_name (i := 6) nd rfl (Or.inl rfl)) (pgs_cons (pg_name (i := 7) nd rfl (Or.inl rfl)) pgs_nil)))))) (pss_one (ps_if (pt_cmpR (op_leT hr.units0) (pe_dget2 hu (pv 2) (pe_tup (pa_cons (pv 5) (pa_cons (pv 6) pa_nil))) (pe_tup (pa_cons pe_int (pa_cons pe_int pa_nil))) ⟨rfl, rfl, rfl, rfl⟩) (pe_tup (pa_cons (pv 3) (pa_cons (pv 4) pa_nil))) (nomark _)) (pss_cons (ps_dput hu (pv 2) (pe_tup (pa_cons (pv 5) (pa_cons (pv 6) pa_nil))) (pe_tup (pa_cons (pv 3) (pa_cons (pv 4) pa_nil))) rfl)
      (pss_one (ps_dput hu (pv 1) (pe_tup (pa_cons (pv 5) (pa_cons (pv 6) pa_nil))) (pv 7) rfl))) pss_nil)))
      (pss_one (ps_ret (pv 1))))), ?_⟩
    intro dF nF dB nB
    have kF : Kx H (upd H dF (.dT [])) := Kx.new nF
    have kB : Kx (upd H dF (.dT [])) (upd (upd H dF (.dT [])) dB (.dT [])) := Kx.new nB
    have nFB : dF ≠ dB := ne_of_none upd_same nB
    have nB0 : H dB = none := kF.f _ nB
    refine ⟨_, _, rfl, ?_⟩
    refine ⟨_, rfl, l, rfl, ⟨_, (kF.trans kB).l hl⟩, for_list (K := K) (a := l) (xs := ts.map V.ref) (fun i σ H2 => ∃ (kvF kvB : List (List Key × V)) (v3 v4 v5 v6 v7 : Option V), σ = [some (.ref l), some (.ref dF), some (.ref dB), v3, v4, v5, v6, v7] ∧ Kx H H2 ∧
        H2 dF = some (.dT kvF) ∧ H2 dB = some (.dT kvB) ∧ AnsD kvF (ansW (ws.take i)) ∧ BestD H2 kvB (ws.take i) ∧ kvF.length ≤ i ∧ kvB.length ≤ i)
      ⟨[], [], none, none, none, none, none, rfl, kF.trans kB, by rw [upd_ne nFB, upd_same], upd_same, fun p o => rfl, fun p o => .inl ⟨rfl, rfl⟩, Nat.le_refl _, Nat.le_refl _⟩ (fun i σ H2 _ ⟨_, _, _, _, _, _, _, _, k2, _⟩ => k2.l hl) ?_ ?_⟩
    · rintro i y σ H2 hi ⟨kvF, kvB, v3, v4, v5, v6, v7, rfl, k2, hF, hB, aF, aB, lF, lB⟩
      obtain ⟨t, ht, rfl⟩ : ∃ t, ts[i]? = some t ∧ V.ref t = y := by
        rw [List.getElem?_map] at hi
        exact Option.map_eq_some_iff.mp hi
      obtain ⟨x, hx, hsx⟩ := paired_at hw ht
      have hxo := hok x (List.mem_of_getElem? hx)
      have hi2 : i < ts.length := (List.getElem?_eq_some_iff.mp ht).1
      have e1 : ws.take (i + 1) = ws.take i ++ [x] := by rw [List.take_add_one, hx] <;> rfl
      refine ⟨t, _, rfl, k2.t hsx, rfl, _, _, rfl, _, _, rfl, _, _, rfl, _, _, rfl, _, _, rfl, rfl, ?_⟩
      -- best.get((p, o), (0, 0)) <= (c, h)
      refine ⟨_, rfl, dB, rfl, .inr ⟨_, .inl hB⟩, _, rfl, _, rfl, (by show 2 ≤ sizeLine; decide), fun k nk => ?_⟩
      have k3 : Kx H2 (upd H2 k (.tup [.int x.p, .int x.o])) := Kx.new nk
      refine ⟨(by show 2 ≤ sizeLine; decide), fun z nz => ?_⟩
      have k4 : Kx (upd H2 k (.tup [.int x.p, .int x.o])) (upd (upd H2 k (.tup [.int x.p, .int x.o])) z (.tup [.int 0, .int 0])) := Kx.new nz
      have k24 := k3.trans k4
      refine ⟨_, DGet.t (k := kPO x.p x.o) (k24.dt hB) (k4.tup upd_same), _, rfl, _, rfl, (by show 2 ≤ sizeLine; decide), fun y ny => ?_⟩
      generalize hH4 : upd (upd H2 k (.tup [.int x.p, .int x.o])) z (.tup [.int 0, .int 0]) = H4 at ny k4 k24 ⊢
      have hz4 : H4 z = some (.tup [.int 0, .int 0]) := by rw [← hH4, upd_same]
      have k5 : Kx H4 (upd H4 y (.tup [.int x.c, .int x.h])) := Kx.new ny
      have hy5 : (upd H4 y (.tup [.int x.c, .int x.h])) y = some (.tup [.int x.c, .int x.h]) := upd_same
      generalize hH5 : upd H4 y (.tup [.int x.c, .int x.h]) = H5 at k5 hy5 ⊢
      have k25 := k24.trans k5
      have bst : ∀ p o, bestW (ws.take (i + 1)) p o = if x.p = p ∧ x.o = o ∧ pleO (bestW (ws.take i) p o) x then some x else bestW (ws.take i) p o := fun p o => by
        rw [e1, bestW_snoc]
      -- the test's answer
      have ans : ∃ (a b : Addr) (ns ms : List Int), (valV kvB (kPO x.p x.o)).getD (.ref z) = .ref a ∧ V.ref y = .ref b ∧ SqT K H5 a (ns.map V.int) ∧ SqT K H5 b (ms.map V.int) ∧
          Ob.lexAt (fun j => decide (ns.getD j 0 = ms.getD j 0)) (fun j => decide (ns.getD j 0 ≤ ms.getD j 0)) (decide (ns.length ≤ ms.length)) 0 (min ns.length ms.length) = decide (pleO (bestW (ws.take i) x.p x.o) x) := by
        rcases aB x.p x.o with ⟨b0, v0⟩ | ⟨x0, t0, b0, v0, h0⟩
        · refine ⟨z, y, [0, 0], [x.c, x.h], by rw [v0] <;> rfl, rfl, st_of (k5.tup hz4), st_of hy5, ?_⟩
          obtain ⟨o1, _, o3, _⟩ := hxo
          rw [lexAt2, b0]
          refine decide_eq_decide.mpr ⟨fun _ => trivial, fun _ => ?_⟩
          omega
        · refine ⟨t0, y, [x0.c, x0.h], [x.c, x.h], by rw [v0] <;> rfl, rfl, st_of (k25.tup h0), st_of hy5, ?_⟩
          rw [lexAt2, b0]
          exact decide_eq_decide.mpr Iff.rfl
      obtain ⟨a', b', ns, ms, g1, g2, g3, g4, g5⟩ := ans
      refine ⟨a', b', ns, ms, g1, g2, g3, g4, _, rfl, ?_⟩
      rw [g5]
      refine ite2 (fun hp => ?_) (fun hp => ?_)
      · -- stored
        have hp := of_decide_eq_true hp
        refine ⟨_, rfl, _, rfl, (by show 2 ≤ sizeLine; decide), fun t2 nt2 => ?_⟩
        have k6 : Kx H5 (upd H5 t2 (.tup [.int x.c, .int x.h])) := Kx.new nt2
        refine ⟨_, rfl, _, rfl, _, rfl, (by show 2 ≤ sizeLine; decide), fun q2 nq2 => ?_⟩
        have ht2 : (upd H5 t2 (.tup [.int x.c, .int x.h])) t2 = some (.tup [.int x.c, .int x.h]) := upd_same
        generalize hH6 : upd H5 t2 (.tup [.int x.c, .int x.h]) = H6 at k6 ht2 nq2 ⊢
        have k7 : Kx H6 (upd H6 q2 (.tup [.int x.p, .int x.o])) := Kx.new nq2
        have hq2 : (upd H6 q2 (.tup [.int x.p, .int x.o])) q2 = some (.tup [.int x.p, .int x.o]) := upd_same
        generalize hH7 : upd H6 q2 (.tup [.int x.p, .int x.o]) = H7 at k7 hq2 ⊢
        have k27 := (k25.trans k6).trans k7
        have hB7 := k27.dt hB
        have hF7 := k27.dt hF
        refine ⟨dB, _, rfl, DPut.t (k := kPO x.p x.o) hB7 hq2 (lt80 (by omega)), ?_⟩
        refine ⟨_, rfl, _, rfl, _, rfl, _, rfl, (by show 2 ≤ sizeLine; decide), fun q3 nq3 => ?_⟩
        have neFB : dF ≠ dB := nFB
        have hF8 : (upd H7 dB (.dT (putK kvB (kPO x.p x.o) (.ref t2)))) dF = some (.dT kvF) := by rw [upd_ne neFB]; exact hF7
        have hB8 : (upd H7 dB (.dT (putK kvB (kPO x.p x.o) (.ref t2)))) dB = some (.dT (putK kvB (kPO x.p x.o) (.ref t2))) := upd_same
        have k08 : Kx H (upd H7 dB (.dT (putK kvB (kPO x.p x.o) (.ref t2)))) := (k2.trans k27).mut nB0
        have tup8 : ∀ b xs, H7 b = some (.tup xs) → (upd H7 dB (.dT (putK kvB (kPO x.p x.o) (.ref t2)))) b = some (.tup xs) := fun b xs e => by
          rw [upd_ne (fun z => by rw [z, hB7] at e; cases e)]
          exact e
        generalize hH8 : upd H7 dB (.dT (putK kvB (kPO x.p x.o) (.ref t2))) = H8 at hF8 hB8 k08 tup8 nq3 ⊢
        have k9 : Kx H8 (upd H8 q3 (.tup [.int x.p, .int x.o])) := Kx.new nq3
        have hq3 : (upd H8 q3 (.tup [.int x.p, .int x.o])) q3 = some (.tup [.int x.p, .int x.o]) := upd_same
        have tup9 : ∀ b xs, H8 b = some (.tup xs) → (upd H8 q3 (.tup [.int x.p, .int x.o])) b = some (.tup xs) := fun b xs e => k9.tup e
        have hF9 := k9.dt hF8
        have hB9 := k9.dt hB8
        generalize hH9 : upd H8 q3 (.tup [.int x.p, .int x.o]) = H9 at k9 hq3 tup9 hF9 hB9 ⊢
        refine ⟨dF, _, rfl, DPut.t (k := kPO x.p x.o) hF9 hq3 (lt80 (by omega)), ?_⟩
        refine ⟨putK kvF (kPO x.p x.o) (.str x.a), putK kvB (kPO x.p x.o) (.ref t2), _, _, _, _, _, rfl, (k08.trans k9).mut nF, upd_same, by rw [upd_ne neFB.symm]; exact hB9, fun p o => ?_, fun p o => ?_, ?_, ?_⟩
        · unfold ansW
          rw [valV_put, bst]
          by_cases e : x.p = p ∧ x.o = o
          · obtain ⟨rfl, rfl⟩ := e
            rw [if_pos rfl, if_pos ⟨rfl, rfl, hp⟩] <;> rfl
          · rw [if_neg (fun z => e ⟨(kPO_inj.mp z).1.symm, (kPO_inj.mp z).2.symm⟩), if_neg (fun z => e ⟨z.1, z.2.1⟩)]
            exact aF p o
        · rw [valV_put, bst]
          by_cases e : x.p = p ∧ x.o = o
          · obtain ⟨rfl, rfl⟩ := e
            rw [if_pos rfl, if_pos ⟨rfl, rfl, hp⟩]
            refine .inr ⟨x, t2, rfl, rfl, ?_⟩
            rw [upd_ne (fun z => by rw [z] at ht2; have := tup9 _ _ (tup8 _ _ (k7.tup ht2)); rw [hF9] at this; cases this)]
            exact tup9 _ _ (tup8 _ _ (k7.tup ht2))
          · rw [if_neg (fun z => e ⟨(kPO_inj.mp z).1.symm, (kPO_inj.mp z).2.symm⟩), if_neg (fun z => e ⟨z.1, z.2.1⟩)]
            rcases aB p o with ⟨b0, v0⟩ | ⟨x0, t0, b0, v0, h0⟩
            · exact .inl ⟨b0, v0⟩
            · have h9 := tup9 _ _ (tup8 _ _ (k27.tup h0))
              refine .inr ⟨x0, t0, b0, v0, ?_⟩
              rw [upd_ne (fun z => by rw [z, hF9] at h9; cases h9)]
              exact h9
        · have := length_putK kvF (kPO x.p x.o) (.str x.a)
          omega
        · have := length_putK kvB (kPO x.p x.o) (.ref t2)
          omega
      · -- not stored
        have hp : ¬ pleO (bestW (ws.take i) x.p x.o) x := fun z => hp (decide_eq_true z)
        have same : bestW (ws.take (i + 1)) = bestW (ws.take i) := by
          funext p o
          rw [bst]
          exact if_neg fun z => hp (by obtain ⟨rfl, rfl, z⟩ := z; exact z)
        refine ⟨kvF, kvB, _, _, _, _, _, rfl, k2.trans k25, k25.dt hF, k25.dt hB, fun p o => ?_, fun p o => ?_, by omega, by omega⟩
        · unfold ansW
          rw [same]
          exact aF p o
        · rw [same]
          rcases aB p o with z | ⟨x0, t0, b0, v0, h0⟩
          · exact .inl z
          · exact .inr ⟨x0, t0, b0, v0, k25.tup h0⟩
    · rintro σ H2 ⟨kvF, kvB, v3, v4, v5, v6, v7, rfl, k2, hF, hB, aF, aB, lF, lB⟩
      rw [List.length_map, len, List.take_length] at aF
      exact ⟨_, rfl, q H2 dF kvF k2 nF hF aF⟩
end
end CH
end

section
set_option Elab.async false
set_option linter.all false
set_option maxRecDepth 100000
set_option maxHeartbeats 4000000
namespace CH
open PySem PySem.Spec PyProof.Rows L2
open GxR (TabB TabG Tabbed)
/-- the entries, one put in -/
def putQ (qs : List (Addr × Wd)) (q : Addr × Wd) : List (Addr × Wd) := if (qs.any fun p => decide (kW p.2 = kW q.2)) = true then qs.map fun p => if kW p.2 = kW q.2 then q else p else qs ++ [q]
theorem putQ_ent (qs : List (Addr × Wd)) (q : Addr × Wd) : putK (qs.map entW) (kW q.2) (.ref q.1) = (putQ qs q).map entW := by
  unfold putK putQ
  have e : ((qs.map entW).any fun kv => decide (kv.1 = kW q.2)) = qs.any fun p => decide (kW p.2 = kW q.2) := by
    rw [List.any_map]
    rfl
  rw [e]
  by_cases h : (qs.any fun p => decide (kW p.2 = kW q.2)) = true
  · rw [if_pos h, if_pos h, List.map_map, List.map_map]
    refine List.map_congr_left fun p _ => ?_
    show (if kW p.2 = kW q.2 then (kW p.2, V.ref q.1) else entW p) = entW (if kW p.2 = kW q.2 then q else p)
    by_cases z : kW p.2 = kW q.2
    · rw [if_pos z, if_pos z, z] <;> rfl
    · rw [if_neg z, if_neg z]
  · rw [if_neg h, if_neg h, List.map_append] <;> rfl
theorem putQ_mem {qs : List (Addr × Wd)} {q p : Addr × Wd} (h : p ∈ putQ qs q) : p = q ∨ p ∈ qs := by
  unfold putQ at h
  split at h
  · obtain ⟨p0, h0, e⟩ := List.mem_map.mp h
    split at e
    · exact .inl e.symm
    · exact .inr (e ▸ h0)
  · rcases List.mem_append.mp h with h | h
    · exact .inr h
    · exact .inl (List.mem_singleton.mp h)
theorem putQ_len (qs : List (Addr × Wd)) (q : Addr × Wd) : (putQ qs q).length ≤ qs.length + 1 := by
  unfold putQ
  split
  · rw [List.length_map]
    omega
  · rw [List.length_append]
    exact Nat.le_refl _
theorem putQ_diff {qs : List (Addr × Wd)} {q : Addr × Wd} (h : qs.Pairwise fun a b => kW a.2 ≠ kW b.2) : (putQ qs q).Pairwise fun a b => kW a.2 ≠ kW b.2 := by
  unfold putQ
  split
  · rw [List.pairwise_map]
    refine h.imp fun {a b} z => ?_
    by_cases e1 : kW a.2 = kW q.2
    · by_cases e2 : kW b.2 = kW q.2
      · exact absurd (e1.trans e2.symm) z
      · rw [if_pos e1, if_neg e2]
        exact fun y => e2 y.symm
    · by_cases e2 : kW b.2 = kW q.2
      · rw [if_neg e1, if_pos e2]
        exact e1
      · rw [if_neg e1, if_neg e2]
        exact z
  · rename_i hn
    refine List.pairwise_append.mpr ⟨h, List.pairwise_singleton _ _, fun a ha b hb => ?_⟩
    rw [List.mem_singleton.mp hb]
    intro z
    exact hn (List.any_eq_true.mpr ⟨a, ha, decide_eq_true z⟩)
theorem Bits.neg {i : Int} {n : Nat} (h : Bits i n) : Bits (-i) n := by
  unfold Bits at h ⊢
  rw [Int.natAbs_neg]
  exact h
theorem bits_sum {n : Nat} : ∀ {ns : List Int}, (∀ z ∈ ns, Bits z n) → Bits ns.sum (n + ns.length)
  | [], _ => by
    show (0 : Int).natAbs < 2 ^ (n + 0)
    exact Nat.pow_pos (by decide)
  | z :: ns, h => by
    have ih := bits_sum fun y hy => h y (List.mem_cons_of_mem _ hy)
    rw [List.sum_cons]
    exact (h z List.mem_cons_self).add ih (by rw [List.length_cons]; omega) (by rw [List.length_cons]; omega)
theorem abs_nn (i : Int) : 0 ≤ (if i < 0 then -i else i) := by split <;> omega
theorem bits_abs {i : Int} {n : Nat} (h : Bits i n) : Bits (if i < 0 then -i else i) n := by
  split
  · exact h.neg
  · exact h
theorem valV_of {qs : List (Addr × Wd)} {q : Addr × Wd} (h : qs.Pairwise fun a b => kW a.2 ≠ kW b.2) (hq : q ∈ qs) : valV (qs.map entW) (kW q.2) = some (.ref q.1) := by
  rcases valV_entW (w := q.2) (qs := qs) with ⟨q', h', e, v⟩ | ⟨n, _⟩
  · have z : q' = q := by
      clear v
      induction qs with
      | nil => exact absurd hq (by simp)
      | cons x qs ih =>
        obtain ⟨h3, h4⟩ := List.pairwise_cons.mp h
        rcases List.mem_cons.mp hq with ea | ea
        · rcases List.mem_cons.mp h' with eb | eb
          · rw [ea, eb]
          · exact absurd (ea ▸ e).symm (h3 q' eb)
        · rcases List.mem_cons.mp h' with eb | eb
          · exact absurd (eb ▸ e) (h3 q ea)
          · exact ih h4 ea eb
    rw [v, z]
  · exact absurd rfl (n q hq)
theorem tat_of {H : Hp} : ∀ {qs : List (Addr × Wd)}, PAt H qs → TAt H (qs.map (·.1)) (qs.map (·.2))
  | [], _ => .nil
  | q :: qs, h => .cons (h q List.mem_cons_self) (tat_of fun p hp => h p (List.mem_cons_of_mem _ hp))
theorem lc_keysT {d : Addr} {o : Obj} {kvs : List (List Key × V)} {g : TG} {tt : TT} {te : TE} {vs : List Nat} {σ : L2.St} {H1 : Hp} {D : Addr} {Qd : Hp → Prop} (Pv : Nat → Hp → Prop) (h0 : Pv 0 (upd H1 D (.lst []))) (hl : ∀ i H, i ≤ kvs.length → Pv i H → H d = some (.frz o (.dT kvs)))
    (hs : ∀ i k v q H, kvs[i]? = some (k, v) → H q = some (.tup (k.map kV)) → Pv i H → g (.ref q) (wipe σ vs) H fun σ2 H2 => wipe σ2 vs = wipe σ vs ∧ tt σ2 H2 fun b H3 =>
      if b = true then te σ2 H3 fun y H4 => ∃ acc, H4 D = some (.lst acc) ∧ acc.length < sizeLine ∧ Pv (i + 1) (upd H4 D (.lst (acc ++ [y]))) else Pv (i + 1) H3) (hd : ∀ H, Pv kvs.length H → Qd H) :
    ∃ W : Nat → Nat → Hp → Prop, (∃ m, W 0 m (upd H1 D (.lst []))) ∧ ∀ i m H, W i m H →
      ((Itkt d o kvs).stop i H ∧ Qd H) ∨ ((Itkt d o kvs).go i H ∧ ∃ Nx : Hp → Prop, (∀ H', Nx H' → ∃ m', m' < m ∧ W (i + 1) m' H') ∧ ∀ x H', (Itkt d o kvs).yld i H x H' → g x (wipe σ vs) H' fun σ2 H2 => wipe σ2 vs = wipe σ vs ∧ tt σ2 H2 fun b H3 =>
        if b = true then te σ2 H3 fun y H4 => ∃ acc, H4 D = some (.lst acc) ∧ acc.length < sizeLine ∧ Nx (upd H4 D (.lst (acc ++ [y]))) else Nx H3) := by
  refine ⟨fun i m H => m = kvs.length - i ∧ i ≤ kvs.length ∧ Pv i H, ⟨kvs.length, by simp, Nat.zero_le _, h0⟩, ?_⟩
  rintro i m H ⟨rfl, hi, p⟩
  have q := hl i H hi p
  by_cases hlt : i < kvs.length
  · refine .inr ⟨⟨q, hlt⟩, Pv (i + 1), fun H' p' => ⟨kvs.length - (i + 1), by omega, rfl, hlt, p'⟩, fun x H' y => ?_⟩
    obtain ⟨e, k, v, b, e1, e2, e3⟩ := y
    subst e
    subst e2
    exact hs i k v b _ e1 e3 p
  · have e : i = kvs.length := by omega
    subst e
    exact .inl ⟨⟨q, Nat.le_refl _⟩, hd _ p⟩
theorem at_two (a b : Int) {i m : Int} (h0 : 0 ≤ i) (h1 : i < 2) (ha : 0 < a) (hb : 0 < b) (hA : a ≤ m) (hB : b ≤ m) : ∃ z, atI [V.int a, V.int b] i = some (.int z) ∧ 0 < z ∧ z ≤ m := by
  obtain ⟨v, hv, hm⟩ := at_small (xs := [V.int a, V.int b]) h0 h1
  rcases List.mem_cons.mp hm with rfl | hm
  · exact ⟨a, hv, ha, hA⟩
  · rcases List.mem_cons.mp hm with rfl | hm
    · exact ⟨b, hv, hb, hB⟩
    · exact (nomatch hm)
section
variable {P : Program} {w : World} {K : PySem.W.Frag} {mg : Str → Option Value} {base : Heap} {c aA cc cm : Addr}
abbrev st_law_words : Stmt := top 38
abbrev nm_law_words : List Str := ["_law_script", "_law_by", "_law_most", "_law_cells", "_law_whole", "_law_found", "_law_kind_here", "_law_at", "_law_cell", "_law_number_here", "_law_key", "_law_far", "_law_person", "_law_hour"]
theorem sc_law_words : FnScope nm_law_words ["_law_script", "_law_by", "_law_most"] (defScope st_law_words) := C8.fnScope_by (by decide +kernel)
def sp_law_words (K : PySem.W.Frag) : Sp := fun vs H Q _ => ∃ (l : Addr) (ns : List Int) (by_ : Int) (most : Nat), vs = [.ref l, .int by_, .int (most : Int)] ∧ SqL K H l (ns.map V.int) ∧ ns.length ≤ 63 ∧ (∀ z ∈ ns, Bits z 1100000) ∧ 0 ≤ by_ ∧ by_ ≤ 1000 ∧ most ≤ 200 ∧
  ∀ (H' : Hp) (r : Addr) (ts : List Addr) (ws : List Wd), Kx H H' → H r = none → H' r = some (.lst (ts.map V.ref)) → TAt H' ts ws → ws.length ≤ most → (∀ x ∈ ws, x.ok) → Diff ws → Q (.ref r) H'
theorem ok_law_words (D : DefT K mg "_law_words" st_law_words c) (T : Tx K mg aA) (f__law_number : C8.Cal P w K mg base 1 "_law_number" sp_law_number []) : C8.Cal P w K mg base 2 "_law_words" (sp_law_words K) [] := by
  refine cal_of D sc_law_words (fun _ _ _ _ _ _ us hl => match us, hl with | [_, _, _], _ => rfl) (fun vs H Q E h => ?_) (fun fa A outer s H vs Q E hr h => ?_)
  · obtain ⟨l, ns, by_, most, rfl, _⟩ := h
    rfl
  · obtain ⟨l, ns, by_, most, rfl, hl, h63, hbits, hb0, hb1, hm, q⟩ := h
    have nd := sc_law_words.nd
    have hu := hu_of hr
    refine ⟨_, (C8.pss_cut (ps_set (i := 3) nd rfl (Or.inl rfl) (pe_ifExp (pt_cmpR (op_neD hr.units) (pv 0) (pe_lst pa_nil) (nomark _)) (pe_slice sl_list (pv 0) po_none (po_some pe_int)) (pe_lst (pa_cons pe_int pa_nil))))
      (pss_cons (ps_asg (pe_tup (pa_cons (pe_op op_add (pe_callB call_abs (by rfl) T.z_abs (by decide +kernel) (pa_cons (pe_callB (cr_sum rfl) (by rfl) T.z_sum (by decide +kernel) (pa_cons (pv 3) pa_nil)) pa_nil)) (pe_op op_mul pe_int (pv 1))) (pa_cons pe_dnewT pa_nil))) (pg_tup (by rfl) (pgs_cons (pg_name (i := 4) nd rfl (Or.inl rfl)) (pgs_cons (pg_name (i := 5) nd rfl (Or.inr rfl)) pgs_nil))))
      (pss_cons (ps_set (i := 6) nd rfl (Or.inl rfl) (pe_op op_mod (pe_op op_fdiv (pv 4) pe_int) pe_int))
      (pss_cons (ps_for PassesOwn.never rfl (pi_range1 (by rfl) T.z_range (pa_cons (pe_op op_mod (pv 4) (pe_op op_add (pv 2) pe_int)) pa_nil)) (pg_name (i := 7) nd rfl (Or.inl rfl)) (pss_cons (ps_set (i := 8) nd rfl (Or.inl rfl) (pe_op op_add (pe_ix ix_list (pv 3) (pe_op op_mod (pe_op op_add (pv 7) (pv 1)) (pe_callB call_len_seq (by rfl) T.z_len PySem.boot_len (pa_cons (pv 3) pa_nil))) (fun _ _ => rfl)) (pe_op op_fdiv (pv 7) (pe_callB call_len_seq (by rfl) T.z_len PySem.boot_len (pa_cons (pv 3) pa_nil)))))
      (pss_cons (ps_set (i := 9) nd rfl (Or.inl rfl) (pe_op op_fdiv (pe_callB call_abs (by rfl) T.z_abs (by decide +kernel) (pa_cons (C8.pe_c f__law_number hr (by first | decide | exact hkp) (by rfl) (pa_cons (pv 8) (pa_cons (pe_op op_add (pv 7) (pv 1)) (pa_cons (pv 4) pa_nil)))) pa_nil)) pe_int))
      (pss_cons (ps_set (i := 10) nd rfl (Or.inl rfl) (pe_tup (pa_cons (pe_op op_add pe_int (pe_op op_mod (pv 9) (pe_ix ix_tup (pe_tup (pa_cons pe_int (pa_cons pe_int pa_nil))) (pe_op op_mod (pv 6) pe_int) (fun _ _ => rfl)))) (pa_cons (pe_op op_mod (pe_op op_fdiv (pv 9) pe_int) pe_int) pa_nil))))
      (pss_cons (ps_set (i := 11) nd rfl (Or.inl rfl) (pe_op op_fdiv (pv 9) pe_int))
      (pss_cons (ps_par (i := 12) (j := 13) (by rfl) nd rfl rfl (by decide) rfl rfl (pa_cons (pe_op op_mod (pv 11) (pe_ix ix_tup (pe_tup (pa_cons pe_int (pa_cons pe_int pa_nil))) (pe_op op_fdiv (pv 6) pe_int) (fun _ _ => rfl))) (pa_cons (pe_op op_mod (pe_op op_fdiv (pv 11) pe_int) (pe_ix ix_tup (pe_tup (pa_cons pe_int (pa_cons pe_int pa_nil))) (pe_op op_fdiv (pv 6) pe_int) (fun _ _ => rfl))) pa_nil)) (by rfl))
      (pss_one (ps_dput hu (pv 5) (pv 10) (pe_op op_catT (pv 10) (pe_tup (pa_cons (pv 12) (pa_cons (pv 13) (pa_cons (pe_ix ix_tup (pe_tup (pa_cons pe_str (pa_cons pe_str (pa_cons pe_str (pa_cons pe_str (pa_cons pe_str pa_nil)))))) (pe_op op_mod (pe_op op_fdiv (pv 11) pe_int) pe_int) (fun _ _ => rfl)) pa_nil))))) rfl))))))))
      (pss_one (ps_ret (pe_lock (pe_lc (own := [("_law_key", 10)]) (g := gName 10) (tt := tYes) (by rfl) nd (pi_keys (pv 5)) (blkOk_by (own := [("_law_key", 10)]) (N := nm_law_words) (sc := defScope st_law_words) (by decide +kernel)) (fun _ _ _ _ _ => pg_name (i := 10) nd rfl (Or.inl rfl)) (fun _ _ _ _ _ => pts_nil) (fun _ _ _ _ _ => (pe_dget hu (pv 5) (pv 10) (fun _ _ => rfl))))))))))), ?_⟩
    -- the cells
    refine ⟨fun σ H1 => ∃ (lc : Addr) (cs : List Int), σ = [some (.ref l), some (.int by_), some (.int (most : Int)), some (.ref lc), none, none, none, none, none, none, none, none, none, none] ∧ Kx H H1 ∧ SqL K H1 lc (cs.map V.int) ∧ 0 < cs.length ∧ cs.length ≤ 63 ∧ (∀ z ∈ cs, Bits z 1100000), ?_, ?_⟩
    · refine ⟨_, rfl, Nat.zero_le _, fun z nz => ?_⟩
      have k1 : Kx H (upd H z (.lst [])) := Kx.new nz
      have hz1 : (upd H z (.lst [])) z = some (.lst (([] : List Int).map V.int)) := upd_same
      generalize upd H z (.lst []) = H1 at k1 hz1 ⊢
      refine ⟨isD ns, isD [], isD_dp (k1.l hl), isD_dp (sq_of hz1), isD_sh ns, isD_sh [], _, rfl, ?_⟩
      rw [isD_eqv]
      by_cases e : ns = []
      · rw [decide_eq_true e]
        refine iteF ⟨by show 1 ≤ sizeLine; decide, fun y ny => ?_⟩
        exact ⟨y, [5], rfl, k1.trans (Kx.new ny), sq_of upd_same, by decide, by decide, fun z hz => by rw [List.mem_singleton.mp hz]; exact Bits.of (by decide) (by decide) |>.mono (n := 10) (by decide)⟩
      · rw [decide_eq_false e]
        refine iteT ⟨_, rfl, 63, rfl, l, _, rfl, k1.l hl, fun y ny => ?_⟩
        have ec : cutV (ns.map V.int) none (some 63) = ns.map V.int := by
          unfold cutV
          rw [HT.sIx_none, show HT.sIx (ns.map V.int).length (ns.map V.int).length (some 63) = min 63 (ns.map V.int).length from HT.sIx_nat _ _ 63]
          rw [List.length_map, List.drop_zero, Nat.min_eq_right (by omega), Nat.sub_zero]
          exact List.take_of_length_le (by rw [List.length_map]; exact Nat.le_refl _)
        refine ⟨y, ns, rfl, k1.trans (Kx.new ny), sq_of ?_, List.length_pos_iff.mpr e, h63, hbits⟩
        rw [upd_same, ec]
    · rintro σ H1 ⟨lc, cs, rfl, k1, hc1, hc0, hc63, hcb⟩
      -- whole, found
      refine ⟨_, rfl, lc, cs, rfl, hc1, _, rfl, _, rfl, _, _, rfl, rfl, .inl ⟨by decide, by decide⟩, _, _, rfl, rfl, ?_⟩
      have w0 := abs_nn cs.sum
      have wb := bits_abs (bits_sum hcb)
      dsimp only
      generalize (if cs.sum < 0 then -cs.sum else cs.sum) = ab at w0 wb ⊢
      intro d nd0
      have k2 : Kx H1 (upd H1 d (.dT [])) := Kx.new nd0
      have hd2 : (upd H1 d (.dT [])) d = some (.dT []) := upd_same
      have nd00 : H d = none := k1.f _ nd0
      generalize upd H1 d (.dT []) = H2 at k2 hd2 ⊢
      refine ⟨by show 2 ≤ sizeLine; decide, fun t nt => ?_⟩
      have k3 : Kx H2 (upd H2 t (.tup [.int (ab + 7 * by_), .ref d])) := Kx.new nt
      have ht3 : (upd H2 t (.tup [.int (ab + 7 * by_), .ref d])) t = some (.tup [.int (ab + 7 * by_), .ref d]) := upd_same
      have hd3 := k3.dt hd2
      generalize upd H2 t (.tup [.int (ab + 7 * by_), .ref d]) = H3 at k3 ht3 hd3 ⊢
      refine ⟨t, _, rfl, st_of ht3, rfl, _, _, rfl, _, _, rfl, rfl, ?_⟩
      have wh0 : 0 ≤ ab + 7 * by_ := by omega
      have whb : Bits (ab + 7 * by_) 1200000 := wb.add (show Bits (7 * by_) 20 from Bits.of (by omega) (by omega)) (by omega) (by omega)
      generalize ab + 7 * by_ = wh at wh0 whb
      have k03 := (k1.trans k2).trans k3
      -- kind
      refine ⟨_, rfl, _, _, rfl, rfl, ⟨by decide, by decide⟩, _, _, rfl, rfl, (by show (0 : Int) < 4; decide), ?_⟩
      have kd0 : 0 ≤ wh / 81 % 4 := Int.emod_nonneg _ (by decide)
      have kd1 : wh / 81 % 4 < 4 := Int.emod_lt_of_pos _ (by decide)
      dsimp (config := { proj := false, failIfUnchanged := false }) only
      generalize wh / 81 % 4 = kd at kd0 kd1 ⊢
      -- the loop
      refine ⟨_, rfl, _, rfl, _, _, rfl, rfl, _, _, rfl, rfl, (by omega), ?_⟩
      have n0 : 0 ≤ wh % ((most : Int) + 1) := Int.emod_nonneg _ (by omega)
      have n1 : wh % ((most : Int) + 1) < (most : Int) + 1 := Int.emod_lt_of_pos _ (by omega)
      dsimp (config := { proj := false, failIfUnchanged := false }) only
      generalize wh % ((most : Int) + 1) = nn at n0 n1 ⊢
      refine ⟨nn, rfl, by omega, by omega, for_range (lo := 0) (n := nn.toNat) (fun i σ H4 => ∃ (qs : List (Addr × Wd)) (v7 v8 v9 v10 v11 v12 v13 : Option V), σ = [some (.ref l), some (.int by_), some (.int (most : Int)), some (.ref lc), some (.int wh), some (.ref d), some (.int kd), v7, v8, v9, v10, v11, v12, v13] ∧ Kx H1 H4 ∧
        H4 d = some (.dT (qs.map entW)) ∧ PAt H4 qs ∧ (∀ q ∈ qs, q.2.ok) ∧ (qs.Pairwise fun a b => kW a.2 ≠ kW b.2) ∧ qs.length ≤ i)
        ⟨[], none, none, none, none, none, none, none, rfl, k2.trans k3, hd3, fun _ z => (nomatch z), fun _ z => (nomatch z), List.Pairwise.nil, Nat.le_refl _⟩ ?_ ?_⟩
      · rintro i σ H4 hi ⟨qs, v7, v8, v9, v10, v11, v12, v13, rfl, k4, hd4, hp4, ok4, df4, ln4⟩
        have hlen : (0 : Int) < ((cs.map V.int).length : Int) := by rw [List.length_map]; omega
        have m0 := Int.emod_nonneg (0 + (i : Int) + by_) (show ((cs.map V.int).length : Int) ≠ 0 by omega)
        have m1 := Int.emod_lt_of_pos (0 + (i : Int) + by_) hlen
        obtain ⟨cv, hcv, hcm⟩ := at_small (xs := cs.map V.int) m0 m1
        obtain ⟨ce, hce, rfl⟩ := List.mem_map.mp hcm
        have hbce := hcb ce hce
        have hc4 : SqL K H4 lc (cs.map V.int) := k4.l hc1
        have hcl : (cs.map V.int).length = cs.length := List.length_map _
        -- cell
        refine ⟨_, rfl, _, rfl, _, rfl, _, _, rfl, rfl, _, rfl, lc, _, rfl, .inl hc4, _, _, rfl, rfl, hlen, ?_⟩
        refine ⟨lc, _, _, _, rfl, rfl, hc4, hcv, _, rfl, _, rfl, lc, _, rfl, .inl hc4, _, _, rfl, rfl, ⟨hlen, by omega⟩, _, _, rfl, rfl, ?_⟩
        have q0 : 0 ≤ (0 + (i : Int)) / ((cs.map V.int).length : Int) := Int.ediv_nonneg (by omega) (by omega)
        have q1 : (0 + (i : Int)) / ((cs.map V.int).length : Int) ≤ 200 := Int.le_trans (Int.ediv_le_self _ (by omega)) (by omega)
        have hbc : Bits (ce + (0 + (i : Int)) / ((cs.map V.int).length : Int)) 2000000 := hbce.add (Bits.of (n := 10) q0 (by omega)) (by decide) (by decide)
        dsimp (config := { proj := false, failIfUnchanged := false }) only
        generalize ce + (0 + (i : Int)) / ((cs.map V.int).length : Int) = cell at hbc ⊢
        refine ⟨_, rfl, _, rfl, _, rfl, _, _, rfl, rfl, _, rfl, cell, _, _, rfl, hbc, by omega, by omega, fun r => ⟨_, rfl, _, _, rfl, rfl, ⟨by decide, by decide⟩, ?_⟩⟩
        have x0 : 0 ≤ (if r < 0 then -r else r) / 3 := Int.ediv_nonneg (abs_nn r) (by decide)
        dsimp (config := { proj := false, failIfUnchanged := false }) only
        generalize (if r < 0 then -r else r) / 3 = nh at x0 ⊢
        -- key
        have kk0 : 0 ≤ kd % 2 := Int.emod_nonneg _ (by decide)
        have kk1 : kd % 2 < 2 := Int.emod_lt_of_pos _ (by decide)
        have kq0 : 0 ≤ kd / 2 := Int.ediv_nonneg kd0 (by decide)
        have kq1 : kd / 2 < 2 := by omega
        obtain ⟨z1, hz1, z1a, z1b⟩ := at_two 99 12 kk0 kk1 (by decide) (by decide) (m := 99) (by decide) (by decide)
        refine ⟨_, rfl, (by show 2 ≤ sizeLine; decide), fun t1 nt1 => ?_⟩
        have k5 : Kx H4 (upd H4 t1 (.tup [.int 99, .int 12])) := Kx.new nt1
        refine ⟨_, rfl, _, _, rfl, rfl, (by show (0 : Int) < 2; decide), t1, _, _, _, rfl, rfl, st_of upd_same, hz1, _, _, rfl, rfl, z1a, _, _, rfl, rfl, _, rfl, _, _, rfl, rfl, ⟨by decide, by decide⟩, _, _, rfl, rfl, (by show (0 : Int) < 4; decide), (by show 2 ≤ sizeLine; decide), ?_⟩
        have c0 : 0 ≤ nh % z1 := Int.emod_nonneg _ (by omega)
        have c1 : nh % z1 < z1 := Int.emod_lt_of_pos _ z1a
        have h0 : 0 ≤ nh / 99 % 4 := Int.emod_nonneg _ (by decide)
        have h1 : nh / 99 % 4 < 4 := Int.emod_lt_of_pos _ (by decide)
        dsimp (config := { proj := false, failIfUnchanged := false }) only
        generalize nh % z1 = cc at c0 c1 ⊢
        generalize nh / 99 % 4 = hh at h0 h1 ⊢
        generalize upd H4 t1 (.tup [.int 99, .int 12]) = H5 at k5 ⊢
        intro ky nky
        have k6 : Kx H5 (upd H5 ky (.tup [.int (1 + cc), .int hh])) := Kx.new nky
        have hky : (upd H5 ky (.tup [.int (1 + cc), .int hh])) ky = some (.tup [.int (1 + cc), .int hh]) := upd_same
        generalize upd H5 ky (.tup [.int (1 + cc), .int hh]) = H6 at k6 hky ⊢
        -- far, person, hour
        refine ⟨_, rfl, _, _, rfl, rfl, ⟨by decide, by decide⟩, ?_⟩
        have fr0 : 0 ≤ nh / 396 := Int.ediv_nonneg x0 (by decide)
        dsimp (config := { proj := false, failIfUnchanged := false }) only
        generalize nh / 396 = far at fr0 ⊢
        obtain ⟨z2, hz2, z2a, z2b⟩ := at_two 8 3 kq0 kq1 (by decide) (by decide) (m := 8) (by decide) (by decide)
        obtain ⟨z3, hz3, z3a, z3b⟩ := at_two 12 4 kq0 kq1 (by decide) (by decide) (m := 12) (by decide) (by decide)
        refine ⟨_, rfl, (by show 2 ≤ sizeLine; decide), fun t2 nt2 => ?_⟩
        have k7 : Kx H6 (upd H6 t2 (.tup [.int 8, .int 3])) := Kx.new nt2
        have ht2 : (upd H6 t2 (.tup [.int 8, .int 3])) t2 = some (.tup [.int 8, .int 3]) := upd_same
        generalize upd H6 t2 (.tup [.int 8, .int 3]) = H7 at k7 ht2 ⊢
        refine ⟨_, rfl, _, _, rfl, rfl, ⟨by decide, by decide⟩, t2, _, _, _, rfl, rfl, st_of ht2, hz2, _, _, rfl, rfl, z2a, ?_⟩
        refine ⟨_, rfl, _, _, rfl, rfl, ⟨by decide, by decide⟩, (by show 2 ≤ sizeLine; decide), fun t3 nt3 => ?_⟩
        have k8 : Kx H7 (upd H7 t3 (.tup [.int 12, .int 4])) := Kx.new nt3
        have ht3' : (upd H7 t3 (.tup [.int 12, .int 4])) t3 = some (.tup [.int 12, .int 4]) := upd_same
        generalize upd H7 t3 (.tup [.int 12, .int 4]) = H8 at k8 ht3' ⊢
        refine ⟨_, rfl, _, _, rfl, rfl, ⟨by decide, by decide⟩, t3, _, _, _, rfl, rfl, st_of ht3', hz3, _, _, rfl, rfl, z3a, ?_⟩
        have p0 : 0 ≤ far % z2 := Int.emod_nonneg _ (by omega)
        have p1 : far % z2 < z2 := Int.emod_lt_of_pos _ z2a
        have o0 : 0 ≤ far / 8 % z3 := Int.emod_nonneg _ (by omega)
        have o1 : far / 8 % z3 < z3 := Int.emod_lt_of_pos _ z3a
        dsimp (config := { proj := false, failIfUnchanged := false }) only
        generalize far % z2 = pp at p0 p1 ⊢
        generalize far / 8 % z3 = oo at o0 o1 ⊢
        refine ⟨_, _, rfl, ?_⟩
        -- the word
        have a0 : 0 ≤ far / 96 % 5 := Int.emod_nonneg _ (by decide)
        have a1 : far / 96 % 5 < 5 := Int.emod_lt_of_pos _ (by decide)
        obtain ⟨va, hva, hvm⟩ := at_small (xs := [V.str "yes", V.str "maybe", V.str "no", V.str "yes", V.str "yes"]) a0 a1
        obtain ⟨an, rfl, han⟩ : ∃ an, va = V.str an ∧ an ∈ ansL := by
          simp only [List.mem_cons, List.not_mem_nil, or_false] at hvm
          rcases hvm with rfl | rfl | rfl | rfl | rfl
          · exact ⟨_, rfl, by unfold ansL; exact .head _⟩
          · exact ⟨_, rfl, by unfold ansL; exact .tail _ (.head _)⟩
          · exact ⟨_, rfl, by unfold ansL; exact .tail _ (.tail _ (.head _))⟩
          · exact ⟨_, rfl, by unfold ansL; exact .head _⟩
          · exact ⟨_, rfl, by unfold ansL; exact .head _⟩
        refine ⟨_, rfl, _, rfl, _, rfl, (by show 5 ≤ sizeLine; decide), fun t4 nt4 => ?_⟩
        have k9 : Kx H8 (upd H8 t4 (.tup [.str "yes", .str "maybe", .str "no", .str "yes", .str "yes"])) := Kx.new nt4
        have ht4 : (upd H8 t4 (.tup [.str "yes", .str "maybe", .str "no", .str "yes", .str "yes"])) t4 = some (.tup [.str "yes", .str "maybe", .str "no", .str "yes", .str "yes"]) := upd_same
        generalize upd H8 t4 (.tup [.str "yes", .str "maybe", .str "no", .str "yes", .str "yes"]) = H9 at k9 ht4 ⊢
        refine ⟨_, rfl, _, _, rfl, rfl, ⟨by decide, by decide⟩, _, _, rfl, rfl, (by show (0 : Int) < 5; decide), t4, _, _, _, rfl, rfl, st_of ht4, hva, (by show 3 ≤ sizeLine; decide), fun t5 nt5 => ?_⟩
        have k10 : Kx H9 (upd H9 t5 (.tup [.int pp, .int oo, .str an])) := Kx.new nt5
        have ht5 : (upd H9 t5 (.tup [.int pp, .int oo, .str an])) t5 = some (.tup [.int pp, .int oo, .str an]) := upd_same
        generalize upd H9 t5 (.tup [.int pp, .int oo, .str an]) = H10 at k10 ht5 ⊢
        have k6a := ((k7.trans k8).trans k9).trans k10
        refine ⟨ky, t5, _, _, rfl, rfl, st_of (k6a.tup hky), st_of ht5, (fun z => nomatch z), (by show 5 ≤ sizeLine; decide), (fun z => nomatch z), fun _ tw ntw => ?_⟩
        have k11 : Kx H10 (upd H10 tw (.tup [.int (1 + cc), .int hh, .int pp, .int oo, .str an])) := Kx.new ntw
        have htw : (upd H10 tw (.tup [.int (1 + cc), .int hh, .int pp, .int oo, .str an])) tw = some (.tup [.int (1 + cc), .int hh, .int pp, .int oo, .str an]) := upd_same
        have k4w := (((k5.trans k6).trans k6a).trans k11)
        have hky' := (k6a.trans k11).tup hky
        have ew : ([.int (1 + cc), .int hh] : List V) ++ [.int pp, .int oo, .str an] = [.int (1 + cc), .int hh, .int pp, .int oo, .str an] := rfl
        rw [ew]
        generalize upd H10 tw (.tup [.int (1 + cc), .int hh, .int pp, .int oo, .str an]) = H11 at k11 htw k4w hky' ⊢
        have hd11 := k4w.dt hd4
        refine ⟨_, rfl, _, rfl, d, _, rfl, DPut.t (k := kW ⟨1 + cc, hh, pp, oo, an⟩) hd11 hky' (lt80 (by rw [List.length_map]; omega)), ?_⟩
        have okw : (⟨1 + cc, hh, pp, oo, an⟩ : Wd).ok := ⟨show 1 ≤ 1 + cc by omega, show 1 + cc ≤ 99 by omega, h0, show hh ≤ 3 by omega, p0, show pp ≤ 7 by omega, o0, show oo ≤ 11 by omega, han⟩
        have e9 := putQ_ent qs (tw, ⟨1 + cc, hh, pp, oo, an⟩)
        refine ⟨putQ qs (tw, ⟨1 + cc, hh, pp, oo, an⟩), _, _, _, _, _, _, _, rfl, (k4.trans k4w).mut nd0, ?_, ?_, ?_, putQ_diff df4, ?_⟩
        · rw [upd_same, ← e9]
        · have hp11 : PAt H11 qs := hp4.k k4w
          have hpa : PAt H11 (putQ qs (tw, ⟨1 + cc, hh, pp, oo, an⟩)) := fun q hq => by
            rcases putQ_mem hq with rfl | hq
            · exact htw
            · exact hp11 q hq
          exact hpa.up hd11 fun ys z => nomatch z
        · intro q hq
          rcases putQ_mem hq with rfl | hq
          · exact okw
          · exact ok4 q hq
        · have := putQ_len qs (tw, (⟨1 + cc, hh, pp, oo, an⟩ : Wd))
          omega
      · rintro σ H4 ⟨qs, v7, v8, v9, v10, v11, v12, v13, rfl, k4, hd4, hp4, ok4, df4, ln4⟩
        refine ⟨d, .dT (qs.map entW), hd4, True.intro, fun od => ?_⟩
        have kL : Kx H1 (upd H4 d (.frz od (.dT (qs.map entW)))) := k4.mut nd0
        have hdL : (upd H4 d (.frz od (.dT (qs.map entW)))) d = some (.frz od (.dT (qs.map entW))) := upd_same
        have hpL : PAt (upd H4 d (.frz od (.dT (qs.map entW)))) qs := hp4.up hd4 fun ys z => nomatch z
        generalize upd H4 d (.frz od (.dT (qs.map entW))) = HL at kL hdL hpL ⊢
        refine ⟨_, rfl, d, od, rfl, .inr ⟨_, hdL, fun D nD => ?_⟩⟩
        have nDd : d ≠ D := ne_of_none hdL nD
        have nD1 : H1 D = none := kL.f _ nD
        refine lc_keysT (Qd := fun H' => H' d = some (.frz od (.dT (qs.map entW))) ∧ Q (.ref D) (upd H' d (.dT (qs.map entW)))) (fun i Hx => Kx H1 Hx ∧ Hx d = some (.frz od (.dT (qs.map entW))) ∧ PAt Hx qs ∧ Hx D = some (.lst (((qs.take i).map (·.1)).map V.ref)))
          ⟨kL.trans (Kx.new nD), by rw [upd_ne nDd]; exact hdL, hpL.k (Kx.new nD), upd_same⟩ (fun i Hx _ z => z.2.1) ?_ ?_
        · rintro i k v b Hx hi hb ⟨kx, hdx, hpx, hDx⟩
          obtain ⟨q1, hq1, eq1⟩ : ∃ q1, qs[i]? = some q1 ∧ entW q1 = (k, v) := by
            rw [List.getElem?_map] at hi
            exact Option.map_eq_some_iff.mp hi
          cases eq1
          refine ⟨rfl, ?_⟩
          refine ⟨_, rfl, _, rfl, d, .ref q1.1, rfl, .inr ⟨_, kW q1.2, b, .inr ⟨_, hdx⟩, rfl, hb, (valV_of df4 (List.mem_of_getElem? hq1)).symm⟩, ?_⟩
          have e1 : qs.take (i + 1) = qs.take i ++ [q1] := by rw [List.take_add_one, hq1] <;> rfl
          refine ⟨_, hDx, lt80 ?_, kx.mut nD1, by rw [upd_ne nDd]; exact hdx, hpx.up hDx (fun ys z => nomatch z), ?_⟩
          · rw [List.length_map, List.length_map, List.length_take]
            omega
          · rw [upd_same, e1, List.map_append, List.map_append] <;> rfl
        · rintro Hx ⟨kx, hdx, hpx, hDx⟩
          rw [List.length_map, List.take_length] at hDx
          refine ⟨hdx, q _ D (qs.map (·.1)) (qs.map (·.2)) ((k1.trans kx).mut nd00) (k1.f _ nD1) (by rw [upd_ne nDd.symm]; exact hDx) ?_ ?_ ?_ ?_⟩
          · exact tat_of (hpx.up hdx fun ys z => nomatch z)
          · rw [List.length_map]
            omega
          · intro x hx
            obtain ⟨q1, hq1, rfl⟩ := List.mem_map.mp hx
            exact ok4 q1 hq1
          · unfold Diff
            rw [List.pairwise_map]
            exact df4
end
end CH
end

section
set_option Elab.async false
set_option linter.all false
set_option maxRecDepth 100000
set_option maxHeartbeats 4000000
namespace CH
open PySem PySem.Spec PyProof.Rows L2
open GxR (TabB TabG Tabbed)
theorem un65 {k : Nat} {A : Around} (r : Room (k + 1) A) : A.units + 65 < cLine := by have := r.un; omega
/-- a deed: an answer, words heard -/
inductive Deed where
  | ans (g p o : Int) (a : Str)
  | hear (g : Int) (us : List Wd)
def DeedAt (K : PySem.W.Frag) (H : Hp) (d : Addr) : Deed → Prop
  | .ans g p o a => H d = some (.tup [.str "answer", .int g, .int p, .int o, .str a])
  | .hear g us => ∃ l : Addr, H d = some (.tup [.str "hear", .int g, .ref l]) ∧ ∃ ts : List Addr, H l = some (.lst (ts.map V.ref)) ∧ TAt H ts us
theorem DeedAt.k {K : PySem.W.Frag} {H H' : Hp} {d : Addr} {q : Deed} (k : Kx H H') (h : DeedAt K H d q) : DeedAt K H' d q := by
  cases q with
  | ans g p o a => exact k.tup h
  | hear g us =>
    obtain ⟨l, h1, ts, h2, h3⟩ := h
    exact ⟨l, k.tup h1, ts, k.lst h2, h3.k k⟩
section
variable {P : Program} {w : World} {K : PySem.W.Frag} {mg : Str → Option Value} {base : Heap} {c aA cBo : Addr}
abbrev st_law_deed : Stmt := top 42
abbrev nm_law_deed : List Str := ["_law_number_here", "_law_hand", "_law_known", "_law_more", "_law_words_here"]
theorem sc_law_deed : FnScope nm_law_deed ["_law_number_here", "_law_hand", "_law_known"] (defScope st_law_deed) := C8.fnScope_by (by decide +kernel)
/-- lists of words, each a list of its own -/
def KnAt (H : Hp) (l : Addr) (kas : List Addr) (kss : List (List Wd)) : Prop := H l = some (.lst (kas.map V.ref)) ∧ Paired (fun a ks => ∃ ts : List Addr, H a = some (.lst (ts.map V.ref)) ∧ TAt H ts ks) kas kss
def sp_law_deed (K : PySem.W.Frag) : Sp := fun vs H Q _ => ∃ (n g : Int) (l : Addr) (kas : List Addr) (kss : List (List Wd)), vs = [.int n, .int g, .ref l] ∧ 0 ≤ n ∧ KnAt H l kas kss ∧ 0 < kss.length ∧ kss.length ≤ 1000 ∧
  (∀ (H' : Hp) (d : Addr) (p o : Int) (a : Str), Kx H H' → H d = none → 0 ≤ p ∧ p ≤ 2 → 0 ≤ o ∧ o ≤ 1 → a ∈ ansL → DeedAt K H' d (.ans g p o a) → Q (.ref d) H') ∧
  (∀ (H' : Hp) (d : Addr) (j m : Nat) (ks : List Wd), Kx H H' → H d = none → kss[j]? = some ks → DeedAt K H' d (.hear g (ks.take m)) → Q (.ref d) H')
theorem ok_law_deed (D : DefT K mg "_law_deed" st_law_deed c) (T : Tx K mg aA) : C8.Cal P w K mg base 1 "_law_deed" (sp_law_deed K) [] := by
  refine cal_of D sc_law_deed (fun _ _ _ _ _ _ us hl => match us, hl with | [_, _, _], _ => rfl) (fun vs H Q E h => ?_) (fun fa A outer s H vs Q E hr h => ?_)
  · obtain ⟨n, g, l, kas, kss, rfl, _⟩ := h
    rfl
  · obtain ⟨n, g, l, kas, kss, rfl, n0, hk, k0, k1000, qa, qh⟩ := h
    have nd := sc_law_deed.nd
    refine ⟨_, (pss_cons (ps_set (i := 3) nd rfl (Or.inl rfl) (pe_op op_fdiv (pv 0) pe_int))
      (pss_cons (ps_if (pt_cmpR op_lt (pe_op op_mod (pv 0) pe_int) pe_int (nomark _)) (pss_one (ps_ret (pe_tup (pa_cons pe_str (pa_cons (pv 1) (pa_cons (pe_op op_mod (pv 3) pe_int) (pa_cons (pe_op op_mod (pe_op op_fdiv (pv 3) pe_int) pe_int) (pa_cons (pe_ix ix_tup (pe_tup (pa_cons pe_str (pa_cons pe_str (pa_cons pe_str pa_nil)))) (pe_op op_mod (pe_op op_fdiv (pv 3) pe_int) pe_int) (fun _ _ => rfl)) pa_nil)))))))) pss_nil)
      (pss_cons (ps_set (i := 4) nd rfl (Or.inl rfl) (pe_ix ix_list (pv 2) (pe_op op_mod (pv 3) (pe_callB call_len_seq (by rfl) T.z_len PySem.boot_len (pa_cons (pv 2) pa_nil))) (fun _ _ => rfl)))
      (pss_one (ps_ret (pe_tup (pa_cons pe_str (pa_cons (pv 1) (pa_cons (pe_slice sl_list (pv 4) po_none (po_some (pe_callB (call_max2 rfl) (by rfl) T.z_max (by decide +kernel) (pa_cons pe_int (pa_cons (pe_op op_sub (pe_callB call_len_seq (by rfl) T.z_len PySem.boot_len (pa_cons (pv 4) pa_nil)) (pe_op op_mod (pe_op op_fdiv (pv 3) pe_int) pe_int)) pa_nil))))) pa_nil))))))))), ?_⟩
    refine ⟨_, rfl, _, _, rfl, rfl, ⟨by decide, by decide⟩, ?_⟩
    dsimp (config := { proj := false, failIfUnchanged := false }) only
    have m0 : 0 ≤ n / 64 := Int.ediv_nonneg n0 (by decide)
    generalize n / 64 = mo at m0 ⊢
    refine ⟨_, rfl, _, _, rfl, rfl, (by show (0 : Int) < 8; decide), _, _, rfl, rfl, _, rfl, ?_⟩
    refine iteB (fun z => ?_) (fun z => ?_)
    · refine ⟨_, rfl, _, rfl, _, _, rfl, rfl, (by show (0 : Int) < 3; decide), _, rfl, _, _, rfl, rfl, ⟨by decide, by decide⟩, _, _, rfl, rfl, (by show (0 : Int) < 2; decide), (by show 3 ≤ sizeLine; decide), fun t nt => ?_⟩
      have k1 : Kx H (upd H t (.tup [.str "yes", .str "no", .str "maybe"])) := Kx.new nt
      have ht : (upd H t (.tup [.str "yes", .str "no", .str "maybe"])) t = some (.tup [.str "yes", .str "no", .str "maybe"]) := upd_same
      generalize upd H t (.tup [.str "yes", .str "no", .str "maybe"]) = H1 at k1 ht ⊢
      have r0 : 0 ≤ mo / 6 % 3 := Int.emod_nonneg _ (by decide)
      have r3 : mo / 6 % 3 < 3 := Int.emod_lt_of_pos _ (by decide)
      obtain ⟨a, ha, hat⟩ : ∃ a : Str, a ∈ ansL ∧ atI ([.str "yes", .str "no", .str "maybe"] : List V) (mo / 6 % 3) = some (.str a) := by
        have : mo / 6 % 3 = 0 ∨ mo / 6 % 3 = 1 ∨ mo / 6 % 3 = 2 := by omega
        rcases this with e | e | e <;> rw [e]
        · exact ⟨"yes", by decide, rfl⟩
        · exact ⟨"no", by decide, rfl⟩
        · exact ⟨"maybe", by decide, rfl⟩
      refine ⟨_, rfl, _, _, rfl, rfl, ⟨by decide, by decide⟩, _, _, rfl, rfl, (by show (0 : Int) < 3; decide), t, _, _, .str a, rfl, rfl, st_of ht, hat, (by show 5 ≤ sizeLine; decide), fun d nd => ?_⟩
      exact qa _ d _ _ a (k1.trans (Kx.new nd)) (k1.f _ nd) ⟨Int.emod_nonneg _ (by decide), by have := Int.emod_lt_of_pos mo (show (0 : Int) < 3 by decide); omega⟩ ⟨Int.emod_nonneg _ (by decide), by have := Int.emod_lt_of_pos (mo / 3) (show (0 : Int) < 2 by decide); omega⟩ ha upd_same
    · have lk := paired_len hk.2
      have hlen : (0 : Int) < ((kas.map V.ref).length : Int) := by rw [List.length_map]; omega
      obtain ⟨cv, hcv, hcm⟩ := at_small (xs := kas.map V.ref) (i := mo % ((kas.map V.ref).length : Int)) (Int.emod_nonneg _ (by omega)) (Int.emod_lt_of_pos _ hlen)
      obtain ⟨ka, hka, rfl⟩ := List.mem_map.mp hcm
      obtain ⟨j, hj⟩ := List.mem_iff_getElem?.mp hka
      obtain ⟨ks, hks, ts, hts, htt⟩ := paired_at hk.2 hj
      refine ⟨_, rfl, _, rfl, _, rfl, l, _, rfl, .inl (sq_of hk.1), _, _, rfl, rfl, hlen, l, _, _, _, rfl, rfl, sq_of hk.1, hcv, ?_⟩
      refine ⟨_, rfl, _, rfl, ?_⟩
      refine ⟨_, rfl, ka, _, rfl, .inl (sq_of hts), _, rfl, _, _, rfl, rfl, ⟨by decide, by decide⟩, _, _, rfl, rfl, (by show (0 : Int) < 3; decide), _, _, rfl, rfl, _, _, rfl, _, rfl, ka, _, rfl, sq_of hts, fun p np => ?_⟩
      have c0 : ∀ z : Int, ∃ mm : Nat, (if z > 0 then z else 0) = (mm : Int) := fun z => by
        refine ⟨z.toNat, ?_⟩
        split <;> omega
      obtain ⟨mm, em⟩ := c0 ((((ts.map V.ref).length : Nat) : Int) - mo / 4 % 3)
      rw [show (if (((ts.map V.ref).length : Nat) : Int) - mo / 4 % 3 > 0 then (((ts.map V.ref).length : Nat) : Int) - mo / 4 % 3 else 0) = (mm : Int) from em, cutV_take, ← List.map_take]
      have k1 : Kx H (upd H p (.lst ((ts.take mm).map V.ref))) := Kx.new np
      have hp : (upd H p (.lst ((ts.take mm).map V.ref))) p = some (.lst ((ts.take mm).map V.ref)) := upd_same
      generalize upd H p (.lst ((ts.take mm).map V.ref)) = H1 at k1 hp ⊢
      refine ⟨(by show 3 ≤ sizeLine; decide), fun d nd => ?_⟩
      have k2 : Kx H1 (upd H1 d (.tup [.str "hear", .int g, .ref p])) := Kx.new nd
      exact qh _ d j mm ks (k1.trans k2) (k1.f _ nd) hks ⟨p, upd_same, ts.take mm, k2.lst hp, tat_take mm (htt.k (k1.trans k2))⟩
theorem any_wd {x : Wd} : ∀ ks : List Wd, ((ks.map wdD).any fun z => PyData.eqv z (wdD x)) = decide (x ∈ ks)
  | [] => by simp
  | k :: ks => by
    rw [List.map_cons, List.any_cons, any_wd ks, wdD_eqv]
    by_cases e : k = x
    · subst e
      simp
    · rw [decide_eq_false e, Bool.false_or]
      refine decide_eq_decide.mpr ⟨List.mem_cons_of_mem _, fun z => ?_⟩
      rcases List.mem_cons.mp z with z | z
      · exact absurd z.symm e
      · exact z
abbrev st_law_due : Stmt := top 40
abbrev nm_law_due : List Str := ["_law_known", "_law_deed_here", "_law_new", "_law_word", "_law_count"]
theorem sc_law_due : FnScope nm_law_due ["_law_known", "_law_deed_here"] (defScope st_law_due) := C8.fnScope_by (by decide +kernel)
def sp_law_due (K : PySem.W.Frag) : Sp := fun vs H Q _ => ∃ (kn d : Addr) (ts : List Addr) (ks : List Wd) (q : Deed), vs = [.ref kn, .ref d] ∧ H kn = some (.lst (ts.map V.ref)) ∧ TAt H ts ks ∧ (∀ x ∈ ks, x.ok) ∧ DeedAt K H d q ∧ ks.length ≤ 200 ∧ match q with
  | .ans g p o a => ∀ (H' : Hp) (t : Addr) (m : Int), Ke [kn] H H' → H' kn = some (.lst ((ts ++ [t]).map V.ref)) → TAt H' (ts ++ [t]) (ks ++ [⟨m + 1, g, p, o, a⟩]) → m ∈ (0 : Int) :: ks.map Wd.c → (∀ y ∈ (0 : Int) :: ks.map Wd.c, y ≤ m) → Q (.int (m + 1)) H'
  | .hear _ us => (∀ x ∈ us, x.ok) ∧ us.length ≤ 200 ∧ ∀ (H' : Hp) (ts2 : List Addr), Ke [kn] H H' → H' kn = some (.lst ((ts ++ ts2).map V.ref)) → TAt H' (ts ++ ts2) (ks ++ newOf ks us) → Q (.int ((newOf ks us).length : Nat)) H'
theorem ok_law_due (D : DefT K mg "_law_due" st_law_due c) (T : Tx K mg aA) : C8.Cal P w K mg base 2 "_law_due" (sp_law_due K) [] := by
  refine cal_of D sc_law_due (fun _ _ _ _ _ _ us hl => match us, hl with | [_, _], _ => rfl) (fun vs H Q E h => ?_) (fun fa A outer s H vs Q E hr h => ?_)
  · obtain ⟨kn, d, ts, ks, q, rfl, _⟩ := h
    rfl
  · obtain ⟨kn, d, ts, ks, q, rfl, hkn, htt, kok, hd, l200, hq⟩ := h
    have nd := sc_law_due.nd
    have hu := hu_of hr
    have lts := paired_len htt
    refine ⟨_, (pss_cons (ps_if (pt_cmpR op_eq (pe_ix ix_tup (pv 1) pe_int (fun _ _ => rfl)) pe_str (nomark _)) (pss_cons (ps_setLc (i := 2) (own := [("_law_word", 3)]) (g := gName 3) (by rfl) nd rfl rfl (sw_true rfl rfl rfl (by decide +kernel)) (pi_list (pe_ix ix_tup (pv 1) pe_int (fun _ _ => rfl))) (blkOk_by (own := [("_law_word", 3)]) (N := nm_law_due) (sc := defScope st_law_due) (by decide +kernel)) (fun _ _ _ _ _ => pg_name (i := 3) nd rfl (Or.inl rfl)) (fun _ _ _ _ _ => pts_one (pt_cmpR (show OpR _ _ (rNotInD K) from op_notInD (un65 hr)) (pv 3) (pv 0) (by rfl))) (fun _ _ _ _ _ => (pv 3)))
      (pss_cons (ps_expr (pe_bm PySem.F.plainAttrs_list PySem.F.slot_list_extend PySem.F.type_list_extend mt_extend (pv 0) (pa_cons (pv 2) pa_nil)))
      (pss_one (ps_ret (pe_callB call_len_seq (by rfl) T.z_len PySem.boot_len (pa_cons (pv 2) pa_nil)))))) pss_nil)
      (pss_cons (ps_set (i := 4) nd rfl (Or.inl rfl) (pe_op op_add (pe_callB (cr_max rfl) (by rfl) T.z_max (by decide +kernel) (pa_cons (pe_op op_cat (pe_lst (pa_cons pe_int pa_nil)) (pe_lc (own := [("_law_word", 3)]) (g := gName 3) (tt := tYes) (by rfl) nd (pi_list (pv 0)) (blkOk_by (own := [("_law_word", 3)]) (N := nm_law_due) (sc := defScope st_law_due) (by decide +kernel)) (fun _ _ _ _ _ => pg_name (i := 3) nd rfl (Or.inl rfl)) (fun _ _ _ _ _ => pts_nil) (fun _ _ _ _ _ => (pe_ix (show IxR _ (rIxT K) from ix_tup) (pv 3) pe_int (fun _ _ => rfl))))) pa_nil)) pe_int))
      (pss_cons (ps_expr (pe_bm PySem.F.plainAttrs_list PySem.F.slot_list_append PySem.F.type_list_append mt_append (pv 0) (pa_cons (pe_op op_catT (pe_tup (pa_cons (pv 4) (pa_cons (pe_ix ix_tup (pv 1) pe_int (fun _ _ => rfl)) pa_nil))) (pe_slice sl_tup (pv 1) (po_some pe_int) po_none)) pa_nil)))
      (pss_one (ps_ret (pv 4)))))), ?_⟩
    cases q with
    | hear g us =>
      obtain ⟨uok, u200, q⟩ := hq
      obtain ⟨l, hdt, us_, hl, hut⟩ := hd
      have lus := paired_len hut
      refine ⟨_, rfl, d, _, 0, .str "hear", rfl, rfl, st_of hdt, atI_nat (xs := [V.str "hear", V.int g, V.ref l]) (j := 0) rfl, rfl, _, rfl, ?_⟩
      refine iteT ?_
      refine ⟨_, rfl, d, _, 2, .ref l, rfl, rfl, st_of hdt, atI_nat (xs := [V.str "hear", V.int g, V.ref l]) (j := 2) rfl, l, rfl, ⟨_, sq_of hl⟩, fun D0 nD => ?_⟩
      refine lc_list (K := K) (a := l) (xs := us_.map V.ref) (fun j H6 => Kx H H6 ∧ ∃ vs : List Addr, H6 D0 = some (.lst (vs.map V.ref)) ∧ TAt H6 vs (newOf ks (us.take j)) ∧ vs.length ≤ j)
        ⟨Kx.new nD, [], upd_same, .nil, Nat.le_refl _⟩ (fun j H6 _ h => h.1.l (sq_of hl)) ?_ ?_
      · rintro j y H6 hj ⟨k6, vs, hD6, hvs, lvs⟩
        obtain ⟨t, ht, rfl⟩ : ∃ t, us_[j]? = some t ∧ V.ref t = y := by
          rw [List.getElem?_map] at hj
          exact Option.map_eq_some_iff.mp hj
        obtain ⟨x, hx, hxt⟩ := paired_at (hut.k k6) ht
        have hjl : j < us_.length := (List.getElem?_eq_some_iff.mp ht).1
        have xok := uok x (List.mem_of_getElem? hx)
        have e1 : us.take (j + 1) = us.take j ++ [x] := by rw [List.take_add_one, hx] <;> rfl
        refine ⟨rfl, _, rfl, _, rfl, wdD x, ks.map wdD, wdD_dp (st_of hxt), wsD_dp ⟨ts, sq_of (k6.lst hkn), (htt.k k6).w⟩, wdD_sh xok.2.2.2.2.2.2.2.2, wsD_sh kok, _, rfl, ?_⟩
        rw [any_wd]
        refine iteB (fun z => ?_) (fun z => ?_)
        · refine ⟨_, rfl, _, hD6, by rw [List.length_map]; exact lt80 (by omega), k6.mut nD, vs ++ [t], by rw [upd_same, List.map_append] <;> rfl, ?_, by rw [List.length_append]; show _ + 1 ≤ _; omega⟩
          unfold newOf
          rw [e1, filter_snoc, if_pos (by exact z)]
          exact paired_snoc (hvs.up hD6 fun ys y => nomatch y) (by rw [upd_ne (fun e => by rw [e, hD6] at hxt; cases hxt)]; exact hxt)
        · refine ⟨k6, vs, hD6, ?_, by omega⟩
          unfold newOf
          rw [e1, filter_snoc, if_neg (by rw [z]; exact Bool.false_ne_true), List.append_nil]
          exact hvs
      · rintro H6 ⟨k6, vs, hD6, hvs, lvs⟩
        rw [List.length_map, lus, List.take_length] at hvs
        rw [List.length_map] at lvs
        have lvs2 := paired_len hvs
        have hkn6 := k6.lst hkn
        have ht6 := htt.k k6
        have ne : D0 ≠ kn := fun e => by rw [e, hkn] at nD; cases nD
        refine ⟨_, rfl, .inl ⟨rfl, _, sq_of hkn6⟩, _, rfl, kn, D0, _, _, rfl, rfl, hkn6, hD6, by rw [List.length_map, List.length_map]; exact small80 (by omega), ?_⟩
        rw [← List.map_append]
        refine ⟨_, rfl, D0, _, rfl, .inl (sq_of (by rw [upd_ne ne]; exact hD6)), ?_⟩
        rw [List.length_map, lvs2]
        exact q _ vs (k6.ke.mut (List.mem_singleton.mpr rfl)) upd_same ((tat_apps ht6 hvs).up hkn6 fun ys y => nomatch y)
    | ans g p o a =>
      have hdt : H d = some (.tup [.str "answer", .int g, .int p, .int o, .str a]) := hd
      refine ⟨_, rfl, d, _, 0, .str "answer", rfl, rfl, st_of hdt, atI_nat (xs := [V.str "answer", V.int g, V.int p, V.int o, V.str a]) (j := 0) rfl, rfl, _, rfl, ?_⟩
      refine iteF ?_
      refine ⟨(by show 1 ≤ sizeLine; decide), fun z nz => ?_⟩
      rw [show ([.int 0] : List V) = ([0] : List Int).map V.int from rfl]
      have k1 : Kx H (upd H z (.lst (([0] : List Int).map V.int))) := Kx.new nz
      have hz : (upd H z (.lst (([0] : List Int).map V.int))) z = some (.lst (([0] : List Int).map V.int)) := upd_same
      generalize upd H z (.lst (([0] : List Int).map V.int)) = H1 at k1 hz ⊢
      have hkn1 := k1.lst hkn
      refine ⟨_, rfl, kn, rfl, ⟨_, sq_of hkn1⟩, fun D0 nD => ?_⟩
      refine lc_list (K := K) (a := kn) (xs := ts.map V.ref) (fun j H6 => Kx H1 H6 ∧ H6 D0 = some (.lst (((ks.take j).map Wd.c).map V.int))) ⟨Kx.new nD, upd_same⟩ (fun j H6 _ h => h.1.l (sq_of hkn1)) ?_ ?_
      · rintro j y H6 hj ⟨k6, hD6⟩
        obtain ⟨t, ht, rfl⟩ : ∃ t, ts[j]? = some t ∧ V.ref t = y := by
          rw [List.getElem?_map] at hj
          exact Option.map_eq_some_iff.mp hj
        obtain ⟨x, hx, hxt⟩ := paired_at (htt.k (k1.trans k6)) ht
        have hjl : j < ts.length := (List.getElem?_eq_some_iff.mp ht).1
        have e1 : ks.take (j + 1) = ks.take j ++ [x] := by rw [List.take_add_one, hx] <;> rfl
        refine ⟨rfl, yesT ?_⟩
        refine ⟨_, rfl, t, _, 0, .int x.c, rfl, rfl, st_of hxt, atI_nat (xs := x.V) (j := 0) rfl, _, hD6, by rw [List.length_map, List.length_map, List.length_take]; exact lt80 (by omega), k6.mut nD, ?_⟩
        rw [upd_same, e1, List.map_append, List.map_append] <;> rfl
      · rintro H6 ⟨k6, hD6⟩
        rw [List.length_map, lts, List.take_length] at hD6
        refine ⟨z, D0, _, _, rfl, rfl, k6.lst hz, hD6, by rw [List.length_map, List.length_map, List.length_map]; show 1 + _ ≤ sizeLine; exact small80 (by omega), fun y ny => ?_⟩
        rw [← List.map_append]
        have k7 : Kx H6 (upd H6 y (.lst ((([0] : List Int) ++ ks.map Wd.c).map V.int))) := Kx.new ny
        have hy : (upd H6 y (.lst ((([0] : List Int) ++ ks.map Wd.c).map V.int))) y = some (.lst ((([0] : List Int) ++ ks.map Wd.c).map V.int)) := upd_same
        generalize upd H6 y (.lst ((([0] : List Int) ++ ks.map Wd.c).map V.int)) = H7 at k7 hy ⊢
        refine ⟨y, ([0] : List Int) ++ ks.map Wd.c, rfl, sq_of hy, by simp, fun m hm top => ⟨_, _, rfl, rfl, ?_⟩⟩
        have k17 := (k1.trans k6).trans k7
        have hd7 := k17.tup hdt
        have hkn7 := k17.lst hkn
        refine ⟨_, rfl, .inl ⟨rfl, _, sq_of hkn7⟩, _, rfl, _, rfl, d, _, 1, .int g, rfl, rfl, st_of hd7, atI_nat (xs := [V.str "answer", V.int g, V.int p, V.int o, V.str a]) (j := 1) rfl, (by show 2 ≤ sizeLine; decide), fun t1 nt1 => ?_⟩
        have k8 : Kx H7 (upd H7 t1 (.tup [.int (m + 1), .int g])) := Kx.new nt1
        have ht1 : (upd H7 t1 (.tup [.int (m + 1), .int g])) t1 = some (.tup [.int (m + 1), .int g]) := upd_same
        generalize upd H7 t1 (.tup [.int (m + 1), .int g]) = H8 at k8 ht1 ⊢
        refine ⟨_, rfl, 2, rfl, ?_⟩
        dsimp only [tNoPart]
        refine ⟨d, _, rfl, st_of (k8.tup hd7), (fun e => absurd e.1 (by show ¬ HT.sIx 5 0 (some 2) = 0; decide)), fun p5 np5 => ?_⟩
        rw [show cutV [V.str "answer", V.int g, V.int p, V.int o, V.str a] (some 2) none = [V.int p, V.int o, V.str a] from rfl]
        have k9 : Kx H8 (upd H8 p5 (.tup [.int p, .int o, .str a])) := Kx.new np5
        have hp5 : (upd H8 p5 (.tup [.int p, .int o, .str a])) p5 = some (.tup [.int p, .int o, .str a]) := upd_same
        generalize upd H8 p5 (.tup [.int p, .int o, .str a]) = H9 at k9 hp5 ⊢
        refine ⟨t1, p5, _, _, rfl, rfl, st_of (k9.tup ht1), st_of hp5, (fun e => by cases e), (by show 5 ≤ sizeLine; decide), (fun e => by cases e), fun _ t nt => ?_⟩
        rw [show ([V.int (m + 1), V.int g] ++ [V.int p, V.int o, V.str a]) = Wd.V ⟨m + 1, g, p, o, a⟩ from rfl]
        have k10 : Kx H9 (upd H9 t (.tup (Wd.V ⟨m + 1, g, p, o, a⟩))) := Kx.new nt
        have ht : (upd H9 t (.tup (Wd.V ⟨m + 1, g, p, o, a⟩))) t = some (.tup (Wd.V ⟨m + 1, g, p, o, a⟩)) := upd_same
        generalize upd H9 t (.tup (Wd.V ⟨m + 1, g, p, o, a⟩)) = H10 at k10 ht ⊢
        have k1A := (k17.trans (k8.trans k9)).trans k10
        have hknA := k1A.lst hkn
        refine ⟨kn, _, _, rfl, rfl, hknA, lt80 (by rw [List.length_map]; omega), ?_⟩
        refine ⟨_, rfl, ?_⟩
        refine hq _ t m (k1A.ke.mut (List.mem_singleton.mpr rfl)) (by rw [upd_same, List.map_append] <;> rfl) ?_ hm top
        exact paired_snoc ((htt.k k1A).up hknA fun ys y => nomatch y) (by rw [upd_ne (fun e => by rw [e, hknA] at ht; cases ht)]; exact ht)
end
end CH
end

section
set_option Elab.async false
set_option linter.all false
set_option maxRecDepth 100000
set_option maxHeartbeats 4000000
namespace CH
open PySem PySem.Spec PyProof.Rows L2
open GxR (TabB TabG Tabbed)
section
variable {P : Program} {w : World} {K : PySem.W.Frag} {mg : Str → Option Value} {base : Heap} {c aA cBo : Addr}
abbrev st_law_ask : Stmt := top 41
abbrev nm_law_ask : List Str := ["_law_book", "_law_deed_here", "_law_handed", "_law_told"]
theorem sc_law_ask : FnScope nm_law_ask ["_law_book", "_law_deed_here"] (defScope st_law_ask) := C8.fnScope_by (by decide +kernel)
def sp_law_ask (K : PySem.W.Frag) (cBo : Addr) : Sp := fun vs H Q _ => ∃ (x dx kn d : Addr) (g : Int) (ts : List Addr) (ws : List Wd) (q : Deed), vs = [.ref x, .ref d] ∧ BookAt H cBo x dx kn g ts ws ∧ DeedAt K H d q ∧ match q with
  | .ans _ p o a => 0 ≤ p ∧ p ≤ 7 ∧ 0 ≤ o ∧ o ≤ 11 ∧ a ∈ ansL ∧ nextC ws ≤ 99 ∧ ws.length < 80 ∧ ∀ (H' : Hp) (t : Addr), Ke [kn] H H' → BookAt H' cBo x dx kn g (ts ++ [t]) (ws ++ [⟨nextC ws, g, p, o, a⟩]) → Q (.int (nextC ws)) H'
  | .hear _ us => Good ws ∧ Good us ∧ Alike (ws ++ us) ∧ ∃ ds, Once (ws ++ us) ds ∧ ds.length ≤ 80 ∧ ∀ (H' : Hp) (r : Addr) (ts' : List Addr), Ke [x] H H' → H r = none → BookAt H' cBo x dx r g ts' ds → Q (.int ((ds.length : Int) - ws.length)) H'
theorem ok_law_ask (D : DefT K mg "_law_ask" st_law_ask c) (T : Tx K mg aA) (m_Book_answer : C8.Met P w K mg base 5 cBo "answer" (sp_answer0 K cBo) []) (m_Book_hear : C8.Met P w K mg base 8 cBo "hear" (sp_hear0 K cBo) []) : C8.Cal P w K mg base 9 "_law_ask" (sp_law_ask K cBo) [] := by
  refine cal_of D sc_law_ask (fun _ _ _ _ _ _ us hl => match us, hl with | [_, _], _ => rfl) (fun vs H Q E h => ?_) (fun fa A outer s H vs Q E hr h => ?_)
  · obtain ⟨x, dx, kn, d, g, ts, ws, q, rfl, _⟩ := h
    rfl
  · obtain ⟨x, dx, kn, d, g, ts, ws, q, rfl, B, hd, hq⟩ := h
    have nd := sc_law_ask.nd
    refine ⟨_, (pss_cons (ps_if (pt_cmpR op_eq (pe_ix ix_tup (pv 1) pe_int (fun _ _ => rfl)) pe_str (nomark _)) (pss_one (ps_ret (C8.pe_mt m_Book_answer hr (by first | decide | exact hkp) (pv 0) (pa_cons (pe_ix ix_tup (pv 1) pe_int (fun _ _ => rfl)) (pa_cons (pe_ix ix_tup (pv 1) pe_int (fun _ _ => rfl)) (pa_cons (pe_ix ix_tup (pv 1) pe_int (fun _ _ => rfl)) pa_nil)))))) pss_nil)
      (pss_cons (ps_set (i := 2) nd rfl (Or.inl rfl) (pe_callTy call_list_of (by rfl) T.z_list (by decide +kernel) (pa_cons (pe_ix ix_tup (pv 1) pe_int (fun _ _ => rfl)) pa_nil)))
      (pss_cons (ps_set (i := 3) nd rfl (Or.inl rfl) (C8.pe_mt m_Book_hear hr (by first | decide | exact hkp) (pv 0) (pa_cons (pv 2) pa_nil)))
      (pss_cons (ps_expr (pe_bm PySem.F.plainAttrs_list PySem.F.slot_list_append PySem.F.type_list_append mt_append (pv 2) (pa_cons (pe_tup (pa_cons pe_int (pa_cons pe_int (pa_cons pe_int (pa_cons pe_int (pa_cons pe_str pa_nil)))))) pa_nil)))
      (pss_one (ps_ret (pv 3))))))), ?_⟩
    cases q with
    | ans g' p o a =>
      have hdt : H d = some (.tup [.str "answer", .int g', .int p, .int o, .str a]) := hd
      obtain ⟨p0, p7, o0, o11, ha, n99, l80, q⟩ := hq
      have at_ : ∀ {i : Nat} {v : V}, ([V.str "answer", V.int g', V.int p, V.int o, V.str a] : List V)[i]? = some v → atI [V.str "answer", V.int g', V.int p, V.int o, V.str a] (i : Int) = some v := fun h => atI_nat h
      refine ⟨_, rfl, d, _, 0, .str "answer", rfl, rfl, st_of hdt, at_ (i := 0) rfl, rfl, _, rfl, ?_⟩
      refine iteT ⟨_, rfl, x, dx, _, rfl, B.ob, rfl, ?_⟩
      refine ⟨_, rfl, d, _, 2, .int p, rfl, rfl, st_of hdt, at_ (i := 2) rfl, _, rfl, d, _, 3, .int o, rfl, rfl, st_of hdt, at_ (i := 3) rfl, _, rfl, d, _, 4, .str a, rfl, rfl, st_of hdt, at_ (i := 4) rfl, ?_⟩
      exact ⟨x, dx, kn, g, p, o, a, ts, ws, rfl, B, p0, p7, o0, o11, ha, n99, l80, fun H' t k _ B' => q H' t k B'⟩
    | hear g' us =>
      obtain ⟨l, hdt, us_, hl, hut⟩ := hd
      obtain ⟨g1, g2, al, ds, ho, l80, q⟩ := hq
      have at_ : ∀ {i : Nat} {v : V}, ([V.str "hear", V.int g', V.ref l] : List V)[i]? = some v → atI [V.str "hear", V.int g', V.ref l] (i : Int) = some v := fun h => atI_nat h
      refine ⟨_, rfl, d, _, 0, .str "hear", rfl, rfl, st_of hdt, at_ (i := 0) rfl, rfl, _, rfl, ?_⟩
      refine iteF ?_
      refine ⟨_, rfl, d, _, 2, .ref l, rfl, rfl, st_of hdt, at_ (i := 2) rfl, l, _, rfl, .inl (sq_of hl), fun hd nhd => ?_⟩
      have k1 : Kx H (upd H hd (.lst (us_.map V.ref))) := Kx.new nhd
      have hhd : (upd H hd (.lst (us_.map V.ref))) hd = some (.lst (us_.map V.ref)) := upd_same
      generalize upd H hd (.lst (us_.map V.ref)) = H1 at k1 hhd ⊢
      have B1 := B.k k1
      refine ⟨_, rfl, x, dx, _, rfl, B1.ob, rfl, _, rfl, ?_⟩
      refine ⟨x, dx, kn, hd, g, ts, ws, us, ds, rfl, B1, ⟨us_, sq_of hhd, (hut.k k1).w⟩, g1, g2, al, ho, l80, fun H2 r ts' k2 nr B2 => ?_⟩
      have lus := paired_len hut
      have u80 := g2.1
      have nxh : hd ≠ x := fun z => by rw [z, B.ob] at nhd; cases nhd
      have hhd2 : H2 hd = some (.lst (us_.map V.ref)) := k2.o _ _ (fun z => nxh (List.mem_singleton.mp z)) hhd fun ps z => (by cases z)
      have nrh : r ≠ hd := fun z => by rw [z, hhd] at nr; cases nr
      refine ⟨_, rfl, .inl ⟨rfl, _, sq_of hhd2⟩, (by show 5 ≤ sizeLine; decide), fun t nt => ?_⟩
      have k3 : Kx H2 (upd H2 t (.tup [.int 99, .int 3, .int 0, .int 0, .str "yes"])) := Kx.new nt
      have ht : (upd H2 t (.tup [.int 99, .int 3, .int 0, .int 0, .str "yes"])) t = some (.tup [.int 99, .int 3, .int 0, .int 0, .str "yes"]) := upd_same
      generalize upd H2 t (.tup [.int 99, .int 3, .int 0, .int 0, .str "yes"]) = H3 at k3 ht ⊢
      have hhd3 := k3.lst hhd2
      have B3 := B2.k k3
      refine ⟨hd, _, _, rfl, rfl, hhd3, lt80 (by rw [List.length_map]; omega), ?_⟩
      refine ⟨_, rfl, ?_⟩
      refine q _ r ts' (((k1.ke.trans k2).trans k3.ke).fresh nhd) (k1.f _ nr) ⟨by rw [upd_ne nxh.symm]; exact B3.ob, by rw [upd_ne nrh]; exact B3.kn, ?_⟩
      exact B3.ws.up hhd3 fun ys y => (by cases y)
abbrev st_law_same : Stmt := top 43
abbrev nm_law_same : List Str := ["_law_book", "_law_known", "_law_number_here", "_law_again", "_law_found", "_law_person", "_law_hour"]
theorem sc_law_same : FnScope nm_law_same ["_law_book", "_law_known", "_law_number_here"] (defScope st_law_same) := C8.fnScope_by (by decide +kernel)
def sp_law_same (K : PySem.W.Frag) (cBo : Addr) : Sp := fun vs H Q _ => ∃ (x dx kn ka : Addr) (g n : Int) (ts tks : List Addr) (ws ks : List Wd), vs = [.ref x, .ref ka, .int n] ∧ BookAt H cBo x dx kn g ts ws ∧ H ka = some (.lst (tks.map V.ref)) ∧ TAt H tks ks ∧ Once ks ws ∧ Diff ks ∧ Good ks ∧ 0 ≤ n ∧ ∀ H' : Hp, Kx H H' → Q (.bl true) H'
theorem ok_law_same (D : DefT K mg "_law_same" st_law_same c) (T : Tx K mg aA) (m_Book_all_words : C8.Met P w K mg base 1 cBo "all_words" (sp_all_words K cBo) []) (m_Book_says : C8.Met P w K mg base 5 cBo "says" (sp_says K cBo) []) (f__law_answers : C8.Cal P w K mg base 1 "_law_answers" (sp_law_answers K) []) : C8.Cal P w K mg base 6 "_law_same" (sp_law_same K cBo) [] := by
  refine cal_of D sc_law_same (fun _ _ _ _ _ _ us hl => match us, hl with | [_, _, _], _ => rfl) (fun vs H Q E h => ?_) (fun fa A outer s H vs Q E hr h => ?_)
  · obtain ⟨x, dx, kn, ka, g, n, ts, tks, ws, ks, rfl, _⟩ := h
    rfl
  · obtain ⟨x, dx, kn, ka, g, n, ts, tks, ws, ks, rfl, B, hka, htk, ho, df, gk, n0, q⟩ := h
    have nd := sc_law_same.nd
    have hu := hu_of hr
    refine ⟨_, (pss_cons (ps_for PassesOwn.never rfl (pi_range1 (by rfl) T.z_range (pa_cons pe_int pa_nil)) (pg_name (i := 3) nd rfl (Or.inl rfl)) (pss_cons (ps_set (i := 4) nd rfl (Or.inl rfl) (C8.pe_mt0 m_Book_all_words hr (by first | decide | exact hkp) (pv 0)))
      (pss_cons (ps_if (PW.pt (pw_or (pt_not (pt_val (pe_callB call_isi (by rfl) T.z_isinstance (by decide +kernel) (pa_cons (pv 4) (pa_cons (pe_bltn (v := .ty "list") (by rfl) T.z_list (by decide +kernel) rfl) pa_nil))))) (pw_or1 (pt_cmpR (op_neD hr.units) (pv 4) (pe_callB cr_sortedWd (by rfl) T.z_sorted (by decide +kernel) (pa_cons (pv 1) pa_nil)) (nomark _))))) (pss_one (ps_ret pe_bl)) pss_nil)
      (pss_one (ps_expr (pe_bm PySem.F.plainAttrs_list PySem.F.slot_list_append PySem.F.type_list_append mt_append (pv 4) (pa_cons (pe_tup pa_nil) pa_nil)))))))
      (pss_cons (ps_par (i := 5) (j := 6) (by rfl) nd rfl rfl (by decide) rfl rfl (pa_cons (pe_op op_mod (pv 2) pe_int) (pa_cons (pe_op op_mod (pe_op op_fdiv (pv 2) pe_int) pe_int) pa_nil)) (by rfl))
      (pss_one (ps_ret (pe_cmpR op_eq (C8.pe_mt m_Book_says hr (by first | decide | exact hkp) (pv 0) (pa_cons (pv 5) (pa_cons (pv 6) pa_nil))) (pe_dget2 hu (C8.pe_c f__law_answers hr (by first | decide | exact hkp) (by rfl) (pa_cons (pv 1) pa_nil)) (pe_tup (pa_cons (pv 5) (pa_cons (pv 6) pa_nil))) pe_str ⟨rfl, rfl, rfl, rfl⟩) (nomark _)))))), ?_⟩
    refine ⟨2, rfl, by decide, by decide, for_range (lo := 0) (n := 2) (fun i σ Hx => ∃ (v3 v4 v5 v6 : Option V), σ = [some (.ref x), some (.ref ka), some (.int n), v3, v4, v5, v6] ∧ Kx H Hx)
      ⟨none, none, none, none, rfl, Kx.refl H⟩ ?_ ?_⟩
    · rintro i σ Hx hi ⟨v3, v4, v5, v6, rfl, kx⟩
      have Bx := B.k kx
      refine ⟨_, rfl, x, dx, _, rfl, Bx.ob, rfl, x, dx, kn, g, ts, ws, rfl, Bx, fun H1 r k1 nr hr1 => ?_⟩
      have k01 := kx.trans k1
      have htk1 := htk.k k01
      have hka1 := k01.lst hka
      have lks := paired_len htk
      have lws := paired_len B.ws
      have l80 := gk.1
      have lw80 := once_len ho
      obtain ⟨qs, e1, e2, hqs⟩ := tat_qs htk1
      have kq : Kept qs ks := e2 ▸ kept_of (by rw [e2]; exact df)
      refine ⟨_, rfl, .ref r, .ty "list", .type "list", .type "list", true, rfl, .ty _, tyx_lst (sq_of hr1), kit_ty (by decide +kernel), true, rfl, iteF ?_⟩
      refine ⟨_, rfl, _, rfl, ka, tks, wkOf H1, 4, rfl, sq_of hka1, by decide, fun t ht => ?_, fun ts' q' hperm hsort nq => ?_⟩
      · obtain ⟨q0, hq0, rfl⟩ := List.mem_map.mp (e1 ▸ ht)
        have e := wkOf_eq (hqs q0 hq0)
        rw [e]
        exact ⟨st_of (hqs q0 hq0), rfl⟩
      obtain ⟨us, hus, hou⟩ := once_of kq hqs (e1.symm ▸ hperm) hsort
      obtain rfl := once_uniq hou ho
      have k2 : Kx H1 (upd H1 q' (.lst (ts'.map V.ref))) := Kx.new nq
      have hq' : (upd H1 q' (.lst (ts'.map V.ref))) q' = some (.lst (ts'.map V.ref)) := upd_same
      generalize upd H1 q' (.lst (ts'.map V.ref)) = H2 at k2 hq' ⊢
      have usok : ∀ x ∈ us, x.ok := fun x hx => gk.2 x ((ho.mem x).mp hx)
      refine ⟨wsD us, wsD us, wsD_dp ⟨ts, sq_of (k2.lst hr1), ((B.ws.k k01).k k2).w⟩, wsD_dp ⟨ts', sq_of hq', (TAt.k k2 hus).w⟩, wsD_sh usok, wsD_sh usok, _, rfl, ?_⟩
      rw [wsD_eqv, decide_eq_true rfl]
      refine iteF ?_
      have hr2 := k2.lst hr1
      refine ⟨_, rfl, .inl ⟨rfl, _, sq_of hr2⟩, Nat.zero_le _, fun e ne => ?_⟩
      have k3 := Kx.new (u := .tup []) ne
      refine ⟨r, _, _, rfl, rfl, k3.lst hr2, lt80 (by rw [List.length_map]; omega), ?_⟩
      exact ⟨_, _, _, _, rfl, ((k01.trans k2).trans k3).mut (kx.f _ nr)⟩
    · rintro σ Hx ⟨v3, v4, v5, v6, rfl, kx⟩
      have Bx := B.k kx
      have al : Alike ks := df.alike
      have alw : Alike ws := fun a ha b hb => al a ((ho.mem a).mp ha) b ((ho.mem b).mp hb)
      have lw80 := once_len ho
      have l80 := gk.1
      have p0 : 0 ≤ n % 3 := Int.emod_nonneg _ (by decide)
      have p3 := Int.emod_lt_of_pos n (show (0 : Int) < 3 by decide)
      have o0 : 0 ≤ n / 3 % 2 := Int.emod_nonneg _ (by decide)
      have o2 := Int.emod_lt_of_pos (n / 3) (show (0 : Int) < 2 by decide)
      refine ⟨_, rfl, _, _, rfl, rfl, (by show (0 : Int) < 3; decide), _, rfl, _, _, rfl, rfl, ⟨by decide, by decide⟩, _, _, rfl, rfl, (by show (0 : Int) < 2; decide), _, _, rfl, ?_⟩
      dsimp (config := { proj := false, failIfUnchanged := false }) only
      generalize n % 3 = pp at p0 p3 ⊢
      generalize n / 3 % 2 = oo at o0 o2 ⊢
      refine ⟨_, rfl, x, dx, _, rfl, Bx.ob, rfl, _, rfl, _, rfl, x, dx, kn, g, pp, oo, ts, ws, rfl, Bx, p0, by omega, o0, by omega, by omega, alw, fun H1 k1 => ?_⟩
      have k01 := kx.trans k1
      refine ⟨_, rfl, ka, ks, rfl, ⟨tks, sq_of (k01.lst hka), (htk.k k01).w⟩, by omega, gk.2, fun H2 d kvs k2 nd2 hd2 ha2 => ?_⟩
      refine ⟨d, rfl, .inr ⟨_, .inl hd2⟩, _, rfl, _, rfl, (by show 2 ≤ sizeLine; decide), fun k nk => ?_⟩
      have k3 : Kx H2 (upd H2 k (.tup [.int pp, .int oo])) := Kx.new nk
      refine ⟨_, DGet.t (k := kPO pp oo) (k3.dt hd2) upd_same, ?_⟩
      rw [ha2 pp oo]
      have e2 : ((ansW ks pp oo).map V.str).getD (.str "no") = .str (ansF ks pp oo) := by
        unfold ansF
        cases ansW ks pp oo <;> rfl
      rw [e2]
      refine ⟨rfl, ?_⟩
      rw [decide_eq_true (by rw [ansF_mem al ho.mem])]
      exact q _ ((k01.trans k2).trans k3)
end
end CH
end

section
set_option Elab.async false
set_option linter.all false
set_option maxRecDepth 100000
set_option maxHeartbeats 4000000
namespace CH
open PySem PySem.Spec PyProof.Rows L2
open GxR (TabB TabG Tabbed)
/-- how the classes stand to each other -/
structure Kd2 (K : PySem.W.Frag) (cH cU cT : Addr) : Prop where
  hU : PySem.W.exmOne K (.ref cU) (.ref cH) = some true
  hT : PySem.W.exmOne K (.ref cT) (.ref cH) = some true
  uu : PySem.W.kitOne K (.ref cU) (.ref cU) = some true
  tu : PySem.W.kitOne K (.ref cT) (.ref cU) = some false
  tt : PySem.W.kitOne K (.ref cT) (.ref cT) = some true
section
variable {P : Program} {w : World} {K : PySem.W.Frag} {mg : Str → Option Value} {base : Heap} {c aA cBo : Addr}
abbrev st_law_kind : Stmt := top 44
abbrev nm_law_kind : List Str := ["_law_book", "_law_words_here", "error"]
theorem sc_law_kind : FnScope nm_law_kind ["_law_book", "_law_words_here"] (defScope st_law_kind) := C8.fnScope_by (by decide +kernel)
def sp_law_kind (K : PySem.W.Frag) (cBo : Addr) : Sp := fun vs H Q _ => ∃ (x dx kn l : Addr) (g : Int) (ts : List Addr) (ws us : List Wd), vs = [.ref x, .ref l] ∧ BookAt H cBo x dx kn g ts ws ∧ WsAt K H l us ∧ Good ws ∧ Good us ∧ Alike ws ∧ Alike us ∧
  (Alike (ws ++ us) → ∀ ds, Once (ws ++ us) ds → ds.length ≤ 80 → ∀ (H' : Hp) (r : Addr) (ts' : List Addr), Ke [x] H H' → H r = none → BookAt H' cBo x dx r g ts' ds → Q (.int 0) H') ∧
  (¬ Alike (ws ++ us) → ∀ H', Kx H H' → Q (.int 1) H') ∧
  (Alike (ws ++ us) → ∀ ds, Once (ws ++ us) ds → 80 < ds.length → ∀ H', Kx H H' → Q (.int 2) H')
theorem ok_law_kind {cH cB cU cT : Addr} (D : DefT K mg "_law_kind" st_law_kind c) (T : Tx K mg aA) (e_HourError : Exn K mg "HourError" cH) (e_Unlike : Exn K mg "Unlike" cU) (e_TooMany : Exn K mg "TooMany" cT) (kd : Kd2 K cH cU cT)
    (m_Book_hear : MetX P w K mg base 8 cBo "hear" (sp_hear K cBo cB cU cT)) : C8.Cal P w K mg base 9 "_law_kind" (sp_law_kind K cBo) [] := by
  refine cal_of D sc_law_kind (fun _ _ _ _ _ _ us hl => match us, hl with | [_, _], _ => rfl) (fun vs H Q E h => ?_) (fun fa A outer s H vs Q E hr h => ?_)
  · obtain ⟨x, dx, kn, l, g, ts, ws, us, rfl, _⟩ := h
    rfl
  · obtain ⟨x, dx, kn, l, g, ts, ws, us, rfl, B, hl, g1, g2, a1, a2, q, qu, qt⟩ := h
    have nd := sc_law_kind.nd
    have hu := hu_of hr
    refine ⟨_, (pss_cons (L2N.ps_try_as (i := 2) rfl rfl nd rfl rfl ⟨rfl, by decide, .inl e_HourError.g⟩ takesN0 (fun W pn xe tk _ => (pss_one (ps_expr (by exact (pe_mtS m_Book_hear hr (by decide) tk (pv 0) (pa_cons (pv 1) pa_nil))))))
      (fun a oe cls d pn hz hf => pss_exc (K := K) fun D0 ec ed C => (pss_one (ps_ret (by exact (pe_ifExp (pt_val (pe_callB (call_isE1 C hz.zc hf ec ed) (by rfl) T.z_isinstance (by decide +kernel) (pa_cons (pv 2) (pa_cons (C8.pe_gc (by rfl) e_Unlike.cv) pa_nil)))) pe_int (pe_ifExp (pt_val (pe_callB (call_isE1 C hz.zc hf ec ed) (by rfl) T.z_isinstance (by decide +kernel) (pa_cons (pv 2) (pa_cons (C8.pe_gc (by rfl) e_TooMany.cv) pa_nil)))) pe_int pe_int)))))))
      (pss_one (ps_ret pe_int))), ?_⟩
    refine ⟨_, rfl, x, dx, _, rfl, B.ob, rfl, _, rfl, x, dx, kn, l, g, ts, ws, us, rfl, B, hl, g1, g2, a1, a2, fun al ds ho le H' r ts' k nr B' => q al ds ho le H' r ts' k nr B', fun na H' k => ?_, fun al ds ho big H' k => ?_⟩
    · exact ⟨true, kd.hU, fun _ a ha => ⟨cU, rfl, rfl, e_Unlike.c, _, rfl, .ref cU, .ref cU, true, rfl, fun u h => h, kd.uu, true, rfl, iteT (qu na H' k)⟩, fun q => nomatch q⟩
    · exact ⟨true, kd.hT, fun _ a ha => ⟨cT, rfl, rfl, e_TooMany.c, _, rfl, .ref cU, .ref cU, false, rfl, fun u h => h, kd.tu, false, rfl, iteF ⟨_, rfl, .ref cT, .ref cT, true, rfl, fun u h => h, kd.tt, true, rfl, iteT (qt al ds ho big H' k)⟩⟩, fun q => nomatch q⟩
end
theorem paired_imp' {α β : Type} {F G : α → β → Prop} (h : ∀ a b, F a b → G a b) : ∀ {xs : List α} {ys : List β}, Paired F xs ys → Paired G xs ys
  | _, _, .nil => .nil
  | _, _, .cons a b => .cons (h _ _ a) (paired_imp' h b)
theorem BookAt.ke {H H' : Hp} {cBo x dx kn p : Addr} {h : Int} {ts : List Addr} {ws : List Wd} {u : HO} (k : Ke [p] H H') (hp : H p = some u) (nt : ∀ ys, u ≠ .tup ys) (n1 : x ≠ p) (n2 : kn ≠ p) (B : BookAt H cBo x dx kn h ts ws) : BookAt H' cBo x dx kn h ts ws :=
  ⟨k.o x _ (fun z => n1 (List.mem_singleton.mp z)) B.ob fun ps z => (by cases z), k.o kn _ (fun z => n2 (List.mem_singleton.mp z)) B.kn fun ps z => (by cases z),
    paired_imp' (fun t w z => k.o t _ (fun y => by
      have y := List.mem_singleton.mp y
      rw [y, hp] at z
      exact nt _ (Option.some.inj z)) z fun ps z => (by cases z)) B.ws⟩
theorem Ke.lst1 {H H' : Hp} {p a : Addr} {xs : List V} (k : Ke [p] H H') (n : a ≠ p) (h : H a = some (.lst xs)) : H' a = some (.lst xs) := k.o a _ (fun z => n (List.mem_singleton.mp z)) h fun ps z => (by cases z)
theorem tat_ke {H H' : Hp} {p : Addr} {u : HO} {ts : List Addr} {ws : List Wd} (k : Ke [p] H H') (hp : H p = some u) (nt : ∀ ys, u ≠ .tup ys) (h : TAt H ts ws) : TAt H' ts ws :=
  paired_imp' (fun t w z => k.o t _ (fun y => by
    have y := List.mem_singleton.mp y
    rw [y, hp] at z
    exact nt _ (Option.some.inj z)) z fun ps z => (by cases z)) h
end CH
end

section
set_option Elab.async false
set_option linter.all false
set_option maxRecDepth 100000
set_option maxHeartbeats 4000000
namespace CH
open PySem PySem.Spec PyProof.Rows L2
section
variable {P : Program} {w : World} {K : PySem.W.Frag} {mg : Str → Option Value} {base : Heap} {c aA cBo : Addr}
theorem ok_all_wordsH (D : MetT K cBo "all_words" "Book.all_words" st_Book_all_words c) (T : Tx K mg aA) (e_Book : Own K mg "Book" cBo) (n2 : NoAttr K cBo "_known") : MetH P w K mg base 1 cBo "all_words" (sp_all_words K cBo) := by
  refine metH_of D sc_Book_all_words (fun _ _ _ _ _ _ us hl => match us, hl with | [_], _ => rfl) (fun vs H Q E h => ?_) (fun f A outer s H vs Q E p hot hr h => ?_)
  · obtain ⟨x, dx, kn, h, ts, ws, rfl, _⟩ := h
    rfl
  · obtain ⟨x, dx, kn, h, ts, ws, rfl, B, q⟩ := h
    have nd := sc_Book_all_words.nd
    refine ⟨_, (pss_one (ps_ret (pe_callTy call_list_of (by rfl) T.z_list (by decide +kernel) (pa_cons (pe_fld (pv 0) rfl) pa_nil)))), ?_⟩
    refine ⟨_, rfl, x, cBo, dx, _, _, rfl, B.ob, e_Book.cl, n2, rfl, kn, _, rfl, .inl (sq_of B.kn), fun r nr => ?_⟩
    exact q _ r (Kx.new nr) nr upd_same
end
end CH
end

section
set_option Elab.async false
set_option linter.all false
set_option maxRecDepth 100000
set_option maxHeartbeats 4000000
/-! several books: all words, what each knows -/
namespace CH
open PySem PySem.Spec PyProof.Rows L2
def up {α : Type} (f : Nat → α) (i : Nat) (v : α) : Nat → α := fun j => if j = i then v else f j
theorem up_at {α : Type} {f : Nat → α} {i : Nat} {v : α} : up f i v i = v := if_pos rfl
theorem up_no {α : Type} {f : Nat → α} {i j : Nat} {v : α} (h : j ≠ i) : up f i v j = f j := if_neg h
structure Kno (n t : Nat) (ks : Nat → List Wd) (al : List Wd) : Prop where
  l : al.length ≤ t
  al_ : Alike al
  ok : ∀ x ∈ al, x.ok ∧ x.c ≤ t
  own : ∀ x ∈ al, ∃ g, g < n ∧ x.h = ((g : Nat) : Int) ∧ x ∈ ks g
  sub : ∀ i, i < n → ∀ x ∈ ks i, x ∈ al
  nd : ∀ i, i < n → (ks i).Nodup
theorem Kno.zero {n : Nat} {ks : Nat → List Wd} (h : ∀ i, i < n → ks i = []) : Kno n 0 ks [] :=
  ⟨Nat.le_refl 0, fun a ha => absurd ha (by simp), fun x hx => absurd hx (by simp), fun x hx => absurd hx (by simp), fun i hi x hx => by rw [h i hi] at hx; exact absurd hx (by simp), fun i hi => by rw [h i hi]; exact List.nodup_nil⟩
theorem alike_diff {ws : List Wd} (al : Alike ws) (nd : ws.Nodup) : Diff ws := List.Pairwise.imp_of_mem (fun {a b} ha hb ne e => ne (al a ha b hb (kW_inj e).1 (kW_inj e).2)) nd
section
variable {n t : Nat} {ks : Nat → List Wd} {al : List Wd} {i : Nat}
theorem Kno.len (K : Kno n t ks al) (hi : i < n) : (ks i).length ≤ t := Nat.le_trans (nodup_sub_len (K.nd i hi) (K.sub i hi)) K.l
theorem Kno.okk (K : Kno n t ks al) (hi : i < n) : ∀ x ∈ ks i, x.ok := fun x hx => (K.ok x (K.sub i hi x hx)).1
theorem Kno.good (K : Kno n t ks al) (h80 : t ≤ 80) (hi : i < n) : Good (ks i) := ⟨Nat.le_trans (K.len hi) h80, K.okk hi⟩
theorem Kno.df (K : Kno n t ks al) (hi : i < n) : Diff (ks i) := alike_diff (alike_sub K.al_ (K.sub i hi)) (K.nd i hi)
theorem Kno.wlen {ws : List Wd} (K : Kno n t ks al) (hi : i < n) (h : Once (ks i) ws) : ws.length = (ks i).length := once_len_eq h (K.nd i hi)
theorem Kno.wgood {ws : List Wd} (K : Kno n t ks al) (h80 : t ≤ 80) (hi : i < n) (h : Once (ks i) ws) : Good ws := ⟨by rw [K.wlen hi h]; exact Nat.le_trans (K.len hi) h80, fun x hx => K.okk hi x ((h.mem x).mp hx)⟩
theorem Kno.ans (K : Kno n t ks al) (h90 : t < 90) (n4 : n ≤ 4) (hi : i < n) {m p o : Int} {a : Str} (hm : m ∈ (0 : Int) :: (ks i).map Wd.c) (top : ∀ y ∈ (0 : Int) :: (ks i).map Wd.c, y ≤ m) (p0 : 0 ≤ p) (p7 : p ≤ 7) (o0 : 0 ≤ o) (o11 : o ≤ 11) (ha : a ∈ ansL) :
    Kno n (t + 1) (up ks i (ks i ++ [⟨m + 1, ((i : Nat) : Int), p, o, a⟩])) (al ++ [⟨m + 1, ((i : Nat) : Int), p, o, a⟩]) := by
  have lt : ∀ x ∈ ks i, x.c < m + 1 := fun x hx => Int.lt_add_one_of_le (top x.c (List.mem_cons_of_mem _ (List.mem_map.mpr ⟨x, hx, rfl⟩)))
  have m0 : 0 ≤ m := top 0 List.mem_cons_self
  have mt : m ≤ t := by
    rcases List.mem_cons.mp hm with z | z
    · omega
    · obtain ⟨x, hx, rfl⟩ := List.mem_map.mp z
      exact (K.ok x (K.sub i hi x hx)).2
  generalize hw : (⟨m + 1, ((i : Nat) : Int), p, o, a⟩ : Wd) = w
  have wc : w.c = m + 1 := by rw [← hw]
  have wh : w.h = ((i : Nat) : Int) := by rw [← hw]
  have wok : w.ok := by rw [← hw]; exact ⟨by show 1 ≤ m + 1; omega, by show m + 1 ≤ 99; omega, by show 0 ≤ ((i : Nat) : Int); omega, by show ((i : Nat) : Int) ≤ 3; omega, p0, p7, o0, o11, ha⟩
  have wn : w ∉ ks i := fun z => by have := lt w z; omega
  have aw : ∀ x ∈ al, x.c = w.c → x.h = w.h → False := fun x hx e1 e2 => by
    obtain ⟨g, hg, e, hk⟩ := K.own x hx
    have : g = i := by omega
    subst this
    have := lt x hk
    omega
  refine ⟨by rw [List.length_append]; exact Nat.add_le_add_right K.l 1, fun x hx y hy e1 e2 => ?_, fun x hx => ?_, fun x hx => ?_, fun j hj x hx => ?_, fun j hj => ?_⟩
  · rcases List.mem_append.mp hx with hx | hx
    · rcases List.mem_append.mp hy with hy | hy
      · exact K.al_ x hx y hy e1 e2
      · rw [List.mem_singleton.mp hy] at e1 e2
        exact (aw x hx e1 e2).elim
    · rcases List.mem_append.mp hy with hy | hy
      · rw [List.mem_singleton.mp hx] at e1 e2
        exact (aw y hy e1.symm e2.symm).elim
      · rw [List.mem_singleton.mp hx, List.mem_singleton.mp hy]
  · rcases List.mem_append.mp hx with hx | hx
    · have := K.ok x hx
      exact ⟨this.1, by omega⟩
    · rw [List.mem_singleton.mp hx]
      exact ⟨wok, by omega⟩
  · rcases List.mem_append.mp hx with hx | hx
    · obtain ⟨g, hg, e, hk⟩ := K.own x hx
      refine ⟨g, hg, e, ?_⟩
      by_cases z : g = i
      · subst z
        rw [up_at]
        exact List.mem_append_left _ hk
      · rw [up_no z]
        exact hk
    · rw [List.mem_singleton.mp hx]
      exact ⟨i, hi, wh, by rw [up_at]; exact List.mem_append_right _ (List.mem_singleton.mpr rfl)⟩
  · by_cases z : j = i
    · subst z
      rw [up_at] at hx
      rcases List.mem_append.mp hx with hx | hx
      · exact List.mem_append_left _ (K.sub _ hi x hx)
      · exact List.mem_append_right _ hx
    · rw [up_no z] at hx
      exact List.mem_append_left _ (K.sub j hj x hx)
  · by_cases z : j = i
    · subst z
      rw [up_at]
      refine List.nodup_append.mpr ⟨K.nd _ hi, List.nodup_cons.mpr ⟨by simp, List.nodup_nil⟩, fun a ha b hb e => ?_⟩
      rw [List.mem_singleton.mp hb] at e
      exact wn (e ▸ ha)
    · rw [up_no z]
      exact K.nd j hj
theorem Kno.next {ws : List Wd} (K : Kno n t ks al) (hi : i < n) (h : Once (ks i) ws) {m : Int} (hm : m ∈ (0 : Int) :: (ks i).map Wd.c) (top : ∀ y ∈ (0 : Int) :: (ks i).map Wd.c, y ≤ m) : nextC ws = m + 1 :=
  next_max h (fun x hx => by have := (K.okk hi x hx).1; omega) hm top
theorem Kno.snoc {ws : List Wd} (K : Kno n t ks al) (hi : i < n) (h : Once (ks i) ws) {m p o : Int} {a : Str} (top : ∀ y ∈ (0 : Int) :: (ks i).map Wd.c, y ≤ m) : Once (ks i ++ [⟨m + 1, ((i : Nat) : Int), p, o, a⟩]) (ws ++ [⟨m + 1, ((i : Nat) : Int), p, o, a⟩]) :=
  once_snoc h fun x hx => Int.lt_add_one_of_le (top x.c (List.mem_cons_of_mem _ (List.mem_map.mpr ⟨x, hx, rfl⟩)))
/-- where a max stands -/
theorem max_ex : ∀ ks : List Wd, ∃ m : Int, m ∈ (0 : Int) :: ks.map Wd.c ∧ ∀ y ∈ (0 : Int) :: ks.map Wd.c, y ≤ m
  | [] => ⟨0, List.mem_cons_self, fun y hy => by rw [List.mem_singleton.mp hy]; exact Int.le_refl _⟩
  | k :: ks => by
    obtain ⟨m, h1, h2⟩ := max_ex ks
    by_cases z : m ≤ k.c
    · refine ⟨k.c, List.mem_cons_of_mem _ List.mem_cons_self, fun y hy => ?_⟩
      rcases List.mem_cons.mp hy with rfl | hy
      · have := h2 0 List.mem_cons_self
        omega
      · rcases List.mem_cons.mp hy with rfl | hy
        · exact Int.le_refl _
        · have := h2 y (List.mem_cons_of_mem _ hy)
          omega
    · refine ⟨m, ?_, fun y hy => ?_⟩
      · rcases List.mem_cons.mp h1 with rfl | h1
        · exact List.mem_cons_self
        · exact List.mem_cons_of_mem _ (List.mem_cons_of_mem _ h1)
      · rcases List.mem_cons.mp hy with rfl | hy
        · exact h2 0 List.mem_cons_self
        · rcases List.mem_cons.mp hy with rfl | hy
          · omega
          · exact h2 y (List.mem_cons_of_mem _ hy)
theorem Kno.hear {us : List Wd} (K : Kno n t ks al) (hi : i < n) (hs : ∀ x ∈ us, x ∈ al) (nd : us.Nodup) : Kno n (t + 1) (up ks i (ks i ++ newOf (ks i) us)) al := by
  refine ⟨Nat.le_succ_of_le K.l, K.al_, fun x hx => ?_, fun x hx => ?_, fun j hj x hx => ?_, fun j hj => ?_⟩
  · have := K.ok x hx
    exact ⟨this.1, by omega⟩
  · obtain ⟨g, hg, e, hk⟩ := K.own x hx
    refine ⟨g, hg, e, ?_⟩
    by_cases z : g = i
    · subst z
      rw [up_at]
      exact List.mem_append_left _ hk
    · rw [up_no z]
      exact hk
  · by_cases z : j = i
    · subst z
      rw [up_at] at hx
      rcases List.mem_append.mp hx with hx | hx
      · exact K.sub _ hi x hx
      · exact hs x (List.mem_filter.mp hx).1
    · rw [up_no z] at hx
      exact K.sub j hj x hx
  · by_cases z : j = i
    · subst z
      rw [up_at]
      exact new_nodup (K.nd _ hi) nd
    · rw [up_no z]
      exact K.nd j hj
/-- what hearing asks and tells -/
theorem Kno.heard {us ws : List Wd} (K : Kno n t ks al) (h80 : t ≤ 80) (hi : i < n) (h : Once (ks i) ws) (hs : ∀ x ∈ us, x ∈ al) (nd : us.Nodup) :
    Good us ∧ Alike (ws ++ us) ∧ ∃ ds, Once (ws ++ us) ds ∧ ds.length ≤ 80 ∧ Once (ks i ++ newOf (ks i) us) ds ∧ ((ds.length : Nat) : Int) - ws.length = ((newOf (ks i) us).length : Nat) := by
  have sub : ∀ x ∈ ws ++ us, x ∈ al := fun x hx => (List.mem_append.mp hx).elim (fun z => K.sub i hi x ((h.mem x).mp z)) (hs x)
  have A : Alike (ws ++ us) := alike_sub K.al_ sub
  obtain ⟨ds, ho⟩ := once_ex _ A
  have hd := once_more h ho
  have e1 := once_len_eq hd (new_nodup (K.nd i hi) nd)
  have e2 := K.wlen hi h
  rw [List.length_append] at e1
  have lt : us.length ≤ t := Nat.le_trans (nodup_sub_len nd hs) K.l
  refine ⟨⟨Nat.le_trans lt h80, fun x hx => (K.ok x (hs x hx)).1⟩, A, ds, ho, ?_, hd, by omega⟩
  exact Nat.le_trans (nodup_sub_len (once_nodup ho) fun x hx => sub x ((ho.mem x).mp hx)) (Nat.le_trans K.l h80)
end
/-- books that hear each other to the end -/
structure Uni (n : Nat) (ws : Nat → List Wd) (U : List Wd) : Prop where
  u : U.Pairwise plt
  ok : ∀ x ∈ U, x.ok
  l : U.length ≤ 80
  ord : ∀ j, j < n → (ws j).Pairwise plt
  sub : ∀ j, j < n → ∀ x ∈ ws j, x ∈ U
  cov : ∀ x ∈ U, ∃ j, j < n ∧ x ∈ ws j
theorem Kno.uni {n t : Nat} {ks ws : Nat → List Wd} {al : List Wd} (K : Kno n t ks al) (h80 : t ≤ 80) (h : ∀ i, i < n → Once (ks i) (ws i)) : ∃ U, Uni n ws U := by
  obtain ⟨U, ho⟩ := once_ex al K.al_
  refine ⟨U, ho.ord, fun x hx => (K.ok x ((ho.mem x).mp hx)).1, Nat.le_trans (once_len ho) (Nat.le_trans K.l h80), fun j hj => (h j hj).ord, fun j hj x hx => (ho.mem x).mpr (K.sub j hj x (((h j hj).mem x).mp hx)), fun x hx => ?_⟩
  obtain ⟨g, hg, _, hk⟩ := K.own x ((ho.mem x).mp hx)
  exact ⟨g, hg, ((h g hg).mem x).mpr hk⟩
section
variable {n : Nat} {ws : Nat → List Wd} {U : List Wd} {i : Nat}
theorem Uni.al (S : Uni n ws U) : Alike U := (show Diff U from List.Pairwise.imp (fun {a b} z e => by
    have := kW_inj e
    unfold plt at z
    omega) S.u).alike
theorem pw_nodup {us : List Wd} (h : us.Pairwise plt) : us.Nodup := List.Pairwise.imp (fun {a b} z e => by subst e; exact plt_irr z) h
theorem Uni.good (S : Uni n ws U) (hi : i < n) : Good (ws i) := ⟨Nat.le_trans (nodup_sub_len (pw_nodup (S.ord i hi)) (S.sub i hi)) S.l, fun x hx => S.ok x (S.sub i hi x hx)⟩
/-- the i-th one hears the j-th one -/
theorem Uni.hear {j : Nat} (S : Uni n ws U) (hi : i < n) (hj : j < n) : Alike (ws i ++ ws j) ∧ ∃ ds, Once (ws i ++ ws j) ds ∧ ds.length ≤ 80 ∧ Uni n (up ws i ds) U ∧ (∀ x ∈ ws i, x ∈ ds) ∧ ∀ x ∈ ws j, x ∈ ds := by
  have sub : ∀ x ∈ ws i ++ ws j, x ∈ U := fun x hx => (List.mem_append.mp hx).elim (S.sub i hi x) (S.sub j hj x)
  have A := alike_sub S.al sub
  obtain ⟨ds, ho⟩ := once_ex _ A
  have s2 : ∀ x ∈ ds, x ∈ U := fun x hx => sub x ((ho.mem x).mp hx)
  refine ⟨A, ds, ho, Nat.le_trans (nodup_sub_len (once_nodup ho) s2) S.l, ⟨S.u, S.ok, S.l, fun q hq => ?_, fun q hq x hx => ?_, fun x hx => ?_⟩, fun x hx => (ho.mem x).mpr (List.mem_append_left _ hx), fun x hx => (ho.mem x).mpr (List.mem_append_right _ hx)⟩
  · by_cases z : q = i
    · rw [z, up_at]
      exact ho.ord
    · rw [up_no z]
      exact S.ord q hq
  · by_cases z : q = i
    · rw [z, up_at] at hx
      exact s2 x hx
    · rw [up_no z] at hx
      exact S.sub q hq x hx
  · obtain ⟨q, hq, hx⟩ := S.cov x hx
    by_cases z : q = i
    · exact ⟨i, hi, by rw [up_at]; exact (ho.mem x).mpr (List.mem_append_left _ (z ▸ hx))⟩
    · exact ⟨q, hq, by rw [up_no z]; exact hx⟩
theorem Uni.full (S : Uni n ws U) (hi : i < n) (h : ∀ x ∈ U, x ∈ ws i) : ws i = U := pw_uniq (S.ord i hi) S.u fun x => ⟨S.sub i hi x, h x⟩
end
end CH
end

section
set_option Elab.async false
set_option linter.all false
set_option maxRecDepth 100000
set_option maxHeartbeats 4000000
namespace CH
open PySem PySem.Spec PyProof.Rows L2
/-! several books -/
structure Shelf (cBo : Addr) (av : List Addr) (H0 H : Hp) (n : Nat) (b : Nat → Addr) (g : Nat → Int) (ws : Nat → List Wd) : Prop where
  ex : ∃ (dx kn : Nat → Addr) (ts : Nat → List Addr), (∀ i, i < n → BookAt H cBo (b i) (dx i) (kn i) (g i) (ts i) (ws i)) ∧ (∀ i j, i < n → j < n → kn i = kn j → i = j) ∧ (∀ i, i < n → H0 (kn i) = none) ∧ ∀ i, i < n → kn i ∉ av
  avd : ∀ a ∈ av, H a ≠ none
  inj : ∀ i j, i < n → j < n → b i = b j → i = j
  fr : ∀ i, i < n → H0 (b i) = none
  k : Kx H0 H
theorem Shelf.kx {cBo : Addr} {av : List Addr} {H0 H H' : Hp} {n : Nat} {b : Nat → Addr} {g : Nat → Int} {ws : Nat → List Wd} (S : Shelf cBo av H0 H n b g ws) (k : Kx H H') : Shelf cBo av H0 H' n b g ws := by
  obtain ⟨dx, kn, ts, a, i, f, v⟩ := S.ex
  exact ⟨⟨dx, kn, ts, fun j h => (a j h).k k, i, f, v⟩, fun a h z => S.avd a h (k.f a z), S.inj, S.fr, S.k.trans k⟩
theorem Shelf.none_ {cBo : Addr} {H : Hp} {b : Nat → Addr} {g : Nat → Int} {ws : Nat → List Wd} : Shelf cBo [] H H 0 b g ws :=
  ⟨⟨b, b, fun _ => [], fun i h => absurd h (Nat.not_lt_zero i), fun i j h => absurd h (Nat.not_lt_zero i), fun i h => absurd h (Nat.not_lt_zero i), fun i h => absurd h (Nat.not_lt_zero i)⟩, fun a h => absurd h (by simp), fun i j h => absurd h (Nat.not_lt_zero i), fun i h => absurd h (Nat.not_lt_zero i), Kx.refl H⟩
/-- a new book -/
theorem Shelf.new {cBo : Addr} {av : List Addr} {H0 H G : Hp} {n : Nat} {b : Nat → Addr} {g : Nat → Int} {ws : Nat → List Wd} {x dx kn : Addr} {h : Int} (S : Shelf cBo av H0 H n b g ws) (nx : H x = none) (k : Kx H G) (nk : H kn = none) (B : BookAt G cBo x dx kn h [] []) :
    Shelf cBo av H0 G (n + 1) (up b n x) (up g n h) (up ws n []) := by
  obtain ⟨dxs, kns, ts, a, i, f, v⟩ := S.ex
  refine ⟨⟨up dxs n dx, up kns n kn, up ts n [], fun j hj => ?_, fun j l hj hl e => ?_, fun j hj => ?_, fun j hj => ?_⟩, fun a h z => S.avd a h (k.f a z), fun j l hj hl e => ?_, fun j hj => ?_, S.k.trans k⟩
  · by_cases z : j = n
    · subst z
      simp only [up_at]
      exact B
    · simp only [up_no z]
      exact (a j (by omega)).k k
  · have ne : ∀ q, q < n → kns q ≠ kn := fun q hq z => by
      have := (a q hq).kn
      rw [z, nk] at this
      cases this
    by_cases z : j = n
    · by_cases y : l = n
      · rw [z, y]
      · rw [z, up_at, up_no y] at e
        exact absurd e.symm (ne l (by omega))
    · by_cases y : l = n
      · rw [y, up_at, up_no z] at e
        exact absurd e (ne j (by omega))
      · rw [up_no z, up_no y] at e
        exact i j l (by omega) (by omega) e
  · by_cases z : j = n
    · rw [z, up_at]
      exact S.k.f _ nk
    · rw [up_no z]
      exact f j (by omega)
  · by_cases z : j = n
    · rw [z, up_at]
      exact fun y => S.avd _ y nk
    · rw [up_no z]
      exact v j (by omega)
  · have ne : ∀ q, q < n → b q ≠ x := fun q hq z => by
      have := (a q hq).ob
      rw [z, nx] at this
      cases this
    by_cases z : j = n
    · by_cases y : l = n
      · rw [z, y]
      · rw [z, up_at, up_no y] at e
        exact absurd e.symm (ne l (by omega))
    · by_cases y : l = n
      · rw [y, up_at, up_no z] at e
        exact absurd e (ne j (by omega))
      · rw [up_no z, up_no y] at e
        exact S.inj j l (by omega) (by omega) e
  · by_cases z : j = n
    · rw [z, up_at]
      exact S.k.f _ nx
    · rw [up_no z]
      exact S.fr j (by omega)
/-- the i-th one by itself, and what follows where its list is changed, or where it has a new one -/
theorem Shelf.at_ {cBo : Addr} {av : List Addr} {H0 H : Hp} {n : Nat} {b : Nat → Addr} {g : Nat → Int} {ws : Nat → List Wd} (S : Shelf cBo av H0 H n b g ws) {i : Nat} (hi : i < n) : ∃ (dx kn : Addr) (ts : List Addr), BookAt H cBo (b i) dx kn (g i) ts (ws i) ∧ H0 kn = none ∧ kn ∉ av ∧
    (∀ (H' : Hp) (ts' : List Addr) (vs : List Wd), Ke [kn] H H' → BookAt H' cBo (b i) dx kn (g i) ts' vs → Shelf cBo av H0 H' n b g (up ws i vs)) ∧
    (∀ (H' : Hp) (r : Addr) (ts' : List Addr) (vs : List Wd), Ke [b i] H H' → H r = none → BookAt H' cBo (b i) dx r (g i) ts' vs → Shelf cBo av H0 H' n b g (up ws i vs)) := by
  obtain ⟨dxs, kns, ts, a, inj, f, v⟩ := S.ex
  have Bi := a i hi
  refine ⟨dxs i, kns i, ts i, Bi, f i hi, v i hi, fun H' ts' vs k B => ?_, fun H' r ts' vs k nr B => ?_⟩
  · refine ⟨⟨dxs, kns, up ts i ts', fun j hj => ?_, inj, f, v⟩, fun a h z => S.avd a h (k.f a z), S.inj, S.fr, Ke.kx S.k k fun q hq => by rw [List.mem_singleton.mp hq]; exact f i hi⟩
    by_cases z : j = i
    · subst z
      simp only [up_at]
      exact B
    · simp only [up_no z]
      have Bj := a j hj
      refine Bj.ke k Bi.kn (fun ys e => by cases e) (fun e => ?_) fun e => z (inj j i hj hi e)
      have := Bj.ob
      rw [e, Bi.kn] at this
      cases this
  · have ne : ∀ q, q < n → kns q ≠ r := fun q hq z => by
      have := (a q hq).kn
      rw [z, nr] at this
      cases this
    refine ⟨⟨dxs, up kns i r, up ts i ts', fun j hj => ?_, fun j l hj hl e => ?_, fun j hj => ?_, fun j hj => ?_⟩, fun a h z => S.avd a h (k.f a z), S.inj, S.fr, Ke.kx S.k k fun q hq => by rw [List.mem_singleton.mp hq]; exact S.fr i hi⟩
    · by_cases z : j = i
      · subst z
        simp only [up_at]
        exact B
      · simp only [up_no z]
        have Bj := a j hj
        refine Bj.ke k Bi.ob (fun ys e => by cases e) (fun e => z (S.inj j i hj hi e)) fun e => ?_
        have := Bj.kn
        rw [e, Bi.ob] at this
        cases this
    · by_cases z : j = i
      · by_cases y : l = i
        · rw [z, y]
        · rw [z, up_at, up_no y] at e
          exact absurd e.symm (ne l hl)
      · by_cases y : l = i
        · rw [y, up_at, up_no z] at e
          exact absurd e (ne j hj)
        · rw [up_no z, up_no y] at e
          exact inj j l hj hl e
    · by_cases z : j = i
      · rw [z, up_at]
        exact S.k.f _ nr
      · rw [up_no z]
        exact f j hj
    · by_cases z : j = i
      · rw [z, up_at]
        exact fun y => S.avd _ y nr
      · rw [up_no z]
        exact v j hj
theorem Shelf.congr {cBo : Addr} {av : List Addr} {H0 H : Hp} {n : Nat} {b b' : Nat → Addr} {g g' : Nat → Int} {ws ws' : Nat → List Wd} (S : Shelf cBo av H0 H n b g ws) (e1 : ∀ i, i < n → b i = b' i) (e2 : ∀ i, i < n → g i = g' i) (e3 : ∀ i, i < n → ws i = ws' i) : Shelf cBo av H0 H n b' g' ws' := by
  obtain ⟨dx, kn, ts, a, i, f, v⟩ := S.ex
  exact ⟨⟨dx, kn, ts, fun j h => by rw [← e1 j h, ← e2 j h, ← e3 j h]; exact a j h, i, f, v⟩, S.avd, fun j l hj hl e => S.inj j l hj hl (by rw [e1 j hj, e1 l hl]; exact e), fun j h => by rw [← e1 j h]; exact S.fr j h, S.k⟩
/-- a list that the books stay clear of is changed -/
theorem Shelf.mut {cBo : Addr} {av : List Addr} {H0 H H' : Hp} {n : Nat} {b : Nat → Addr} {g : Nat → Int} {ws : Nat → List Wd} {p : Addr} {xs : List V} (S : Shelf cBo av H0 H n b g ws) (hp : p ∈ av) (hl : H p = some (.lst xs)) (h0 : H0 p = none) (k : Ke [p] H H') : Shelf cBo av H0 H' n b g ws := by
  obtain ⟨dx, kn, ts, a, i, f, v⟩ := S.ex
  refine ⟨⟨dx, kn, ts, fun j h => (a j h).ke k hl (fun ys e => by cases e) (fun e => ?_) (fun e => v j h (by rw [e]; exact hp)), i, f, v⟩, fun a h z => S.avd a h (k.f a z), S.inj, S.fr, Ke.kx S.k k fun q hq => by rw [List.mem_singleton.mp hq]; exact h0⟩
  have := (a j h).ob
  rw [e, hl] at this
  cases this
/-- lists that stand now are none of theirs -/
theorem Shelf.clear {cBo : Addr} {av av' : List Addr} {H0 H H' : Hp} {n : Nat} {b : Nat → Addr} {g : Nat → Int} {ws : Nat → List Wd} (S : Shelf cBo av H0 H n b g ws) (k : Kx H H') (h : ∀ a ∈ av', (a ∈ av ∨ H a = none) ∧ H' a ≠ none) : Shelf cBo av' H0 H' n b g ws := by
  obtain ⟨dx, kn, ts, a, i, f, v⟩ := S.ex
  refine ⟨⟨dx, kn, ts, fun j h => (a j h).k k, i, f, fun j hj y => ?_⟩, fun a y => (h a y).2, S.inj, S.fr, S.k.trans k⟩
  rcases (h _ y).1 with z | z
  · exact v j hj z
  · have := (a j hj).kn
    rw [z] at this
    cases this
theorem Shelf.none1 {cBo : Addr} {av : List Addr} {H0 H : Hp} {b : Nat → Addr} {g : Nat → Int} {ws : Nat → List Wd} (k : Kx H0 H) (h : ∀ a ∈ av, H a ≠ none) : Shelf cBo av H0 H 0 b g ws :=
  ⟨⟨b, b, fun _ => [], fun i h => absurd h (Nat.not_lt_zero i), fun i j h => absurd h (Nat.not_lt_zero i), fun i h => absurd h (Nat.not_lt_zero i), fun i h => absurd h (Nat.not_lt_zero i)⟩, h, fun i j h => absurd h (Nat.not_lt_zero i), fun i h => absurd h (Nat.not_lt_zero i), k⟩
end CH
end

section
set_option Elab.async false
set_option linter.all false
set_option maxRecDepth 100000
set_option maxHeartbeats 4000000
namespace CH
open PySem PySem.Spec PyProof.Rows L2
open GxR (TabB TabG Tabbed)
theorem ite0 {x : Bool} {A B : Prop} (h : x = false) (b : B) : if x = true then A else B := by
  rw [h, if_neg Bool.false_ne_true]
  exact b
theorem once_all {ws us : List Wd} (h1 : ∀ x ∈ us, x ∈ ws) (h2 : ∀ x ∈ ws, x ∈ us) (h3 : us.Pairwise plt) : Once ws us := ⟨fun x => ⟨h1 x, h2 x⟩, h3⟩
theorem seq_cut {a rest : TS} {D : Ends} {σ : L2.St} {H : Hp} (Iv : L2.St → Hp → Prop) (h2 : ∀ D' : Ends, (∀ σ' H', Iv σ' H' → D'.nx σ' H') → a D' σ H) (h1 : ∀ σ' H', Iv σ' H' → rest D σ' H') : tSeq a rest D σ H := h2 { D with nx := rest D } h1
def two {α : Type} (x y : α) : Nat → α := fun i => if i = 0 then x else y
abbrev S2 (cBo : Addr) (H0 H : Hp) (x y : Addr) (ws us : List Wd) : Prop := Shelf cBo [] H0 H 2 (two x y) (fun _ => 1) (two ws us)
theorem S2.a {cBo : Addr} {H0 H : Hp} {x y : Addr} {ws us : List Wd} (S : S2 cBo H0 H x y ws us) : ∃ (dx kn : Addr) (ts : List Addr), BookAt H cBo x dx kn 1 ts ws ∧ H0 kn = none ∧
    (∀ (H' : Hp) (ts' : List Addr) (vs : List Wd), Ke [kn] H H' → BookAt H' cBo x dx kn 1 ts' vs → S2 cBo H0 H' x y vs us) ∧
    (∀ (H' : Hp) (r : Addr) (ts' : List Addr) (vs : List Wd), Ke [x] H H' → H r = none → BookAt H' cBo x dx r 1 ts' vs → S2 cBo H0 H' x y vs us) := by
  obtain ⟨dx, kn, ts, B, f, _, q1, q2⟩ := Shelf.at_ S (i := 0) (by decide)
  have e : ∀ {vs : List Wd} (i : Nat), i < 2 → up (two ws us) 0 vs i = two vs us i := fun {vs} i hi => by
    match i, hi with
    | 0, _ => rfl
    | 1, _ => rfl
  exact ⟨dx, kn, ts, B, f, fun H' ts' vs k B' => (q1 H' ts' vs k B').congr (fun _ _ => rfl) (fun _ _ => rfl) e, fun H' r ts' vs k n B' => (q2 H' r ts' vs k n B').congr (fun _ _ => rfl) (fun _ _ => rfl) e⟩
theorem S2.b {cBo : Addr} {H0 H : Hp} {x y : Addr} {ws us : List Wd} (S : S2 cBo H0 H x y ws us) : ∃ (dx kn : Addr) (ts : List Addr), BookAt H cBo y dx kn 1 ts us ∧ H0 kn = none ∧
    (∀ (H' : Hp) (ts' : List Addr) (vs : List Wd), Ke [kn] H H' → BookAt H' cBo y dx kn 1 ts' vs → S2 cBo H0 H' x y ws vs) := by
  obtain ⟨dx, kn, ts, B, f, _, q1, q2⟩ := Shelf.at_ S (i := 1) (by decide)
  have e : ∀ {vs : List Wd} (i : Nat), i < 2 → up (two ws us) 1 vs i = two ws vs i := fun {vs} i hi => by
    match i, hi with
    | 0, _ => rfl
    | 1, _ => rfl
  exact ⟨dx, kn, ts, B, f, fun H' ts' vs k B' => (q1 H' ts' vs k B').congr (fun _ _ => rfl) (fun _ _ => rfl) e⟩
theorem S2.made {cBo : Addr} {H0 G1 G2 : Hp} {x dx kn y dy km : Addr} (nx : H0 x = none) (k1 : Kx H0 G1) (nk : H0 kn = none) (B1 : BookAt G1 cBo x dx kn 1 [] []) (ny : G1 y = none) (k2 : Kx G1 G2) (nm : G1 km = none) (B2 : BookAt G2 cBo y dy km 1 [] []) : S2 cBo H0 G2 x y [] [] := by
  have S0 : Shelf cBo [] H0 H0 0 (fun _ => x) (fun _ => 1) (fun _ => []) := Shelf.none_
  have S := (S0.new nx k1 nk B1).new ny k2 nm B2
  refine S.congr (fun i hi => ?_) (fun i hi => ?_) (fun i hi => ?_)
  all_goals
    match i, hi with
    | 0, _ => rfl
    | 1, _ => rfl
def vA : Wd := ⟨1, 1, 7, 11, "yes"⟩
def vB : Wd := ⟨1, 1, 7, 10, "yes"⟩
def vC : Wd := ⟨98, 0, 0, 0, "no"⟩
def vD : Wd := ⟨99, 1, 0, 0, "yes"⟩
def vE : Wd := ⟨99, 3, 0, 0, "maybe"⟩
/-- texts that are answers, as data -/
def ssD (ss : List Str) : PyData := .list (ss.map PyData.str)
theorem str_eqv (a b : Str) : PyData.eqv (.str a) (.str b) = decide (a = b) := by
  show (a == b) = _
  exact beq_str a b
theorem ssD_eqv (xs ys : List Str) : PyData.eqv (ssD xs) (ssD ys) = decide (xs = ys) := eqvAll_map str_eqv xs ys
theorem strs_dp {K : PySem.W.Frag} {H : Hp} : ∀ ss : List Str, DpAll K H (ss.map V.str) (ss.map PyData.str)
  | [] => .nil
  | s :: ss => .cons (.str s) (strs_dp ss)
theorem ssD_dp {K : PySem.W.Frag} {H : Hp} {l : Addr} {ss : List Str} (h : SqL K H l (ss.map V.str)) : Dp K H (.ref l) (ssD ss) := .lst h (strs_dp ss)
section
variable {P : Program} {w : World} {K : PySem.W.Frag} {mg : Str → Option Value} {base : Heap} {c aA cBo : Addr}
abbrev st_law_two_right : Stmt := top 45
abbrev nm_law_two_right : List Str := ["_law_one", "_law_other", "_law_known", "_law_turn", "error"]
theorem sc_law_two_right : FnScope nm_law_two_right [] (defScope st_law_two_right) := C8.fnScope_by (by decide +kernel)
def sp_two : Sp := fun vs H Q _ => vs = [] ∧ ∀ H' : Hp, Kx H H' → Q (.bl true) H'
theorem ok_law_two_right {cH cU cT : Addr} (D : DefT K mg "_law_two_right" st_law_two_right c) (T : Tx K mg aA) (e_HourError : Exn K mg "HourError" cH) (e_TooMany : Exn K mg "TooMany" cT) (kd : Kd2 K cH cU cT)
    (k_Book : C8.Mak P w K mg base 5 "Book" cBo (sp_Book_init K cBo) []) (m_Book_answer0 : C8.Met P w K mg base 5 cBo "answer" (sp_answer0 K cBo) []) (m_Book_answer : MetX P w K mg base 5 cBo "answer" (sp_answer K cBo cT)) (m_Book_hear : C8.Met P w K mg base 8 cBo "hear" (sp_hear0 K cBo) [])
    (m_Book_all_words : C8.Met P w K mg base 1 cBo "all_words" (sp_all_words K cBo) []) (m_Book_says : C8.Met P w K mg base 5 cBo "says" (sp_says K cBo) []) (mh_Book_all_words : MetH P w K mg base 1 cBo "all_words" (sp_all_words K cBo)) (f__law_kind : C8.Cal P w K mg base 9 "_law_kind" (sp_law_kind K cBo) []) : C8.Cal P w K mg base 10 "_law_two_right" sp_two [] := by
  refine cal_of D sc_law_two_right (fun _ _ _ _ _ _ us hl => match us, hl with | [], _ => rfl) (fun vs H Q E h => ?_) (fun fa A outer s H vs Q E hr h => ?_)
  · obtain ⟨rfl, _⟩ := h
    rfl
  · obtain ⟨rfl, q⟩ := h
    have nd := sc_law_two_right.nd
    have hu := hu_of hr
    refine ⟨_, (pss_cons (ps_par (i := 0) (j := 1) (by rfl) nd rfl rfl (by decide) rfl rfl (pa_cons (C8.pe_mk k_Book hr (by first | decide | exact hkp) (by rfl) (pa_cons pe_int pa_nil)) (pa_cons (C8.pe_mk k_Book hr (by first | decide | exact hkp) (by rfl) (pa_cons pe_int pa_nil)) pa_nil)) (by rfl))
      (pss_cons (ps_if (pt_cmpR (op_neD hr.units) (pe_lst (pa_cons (C8.pe_mt m_Book_answer0 hr (by first | decide | exact hkp) (pv 0) (pa_cons pe_int (pa_cons pe_int (pa_cons pe_str pa_nil)))) (pa_cons (C8.pe_mt m_Book_answer0 hr (by first | decide | exact hkp) (pv 1) (pa_cons pe_int (pa_cons pe_int (pa_cons pe_str pa_nil)))) pa_nil))) (pe_lst (pa_cons pe_int (pa_cons pe_int pa_nil))) (nomark _)) (pss_one (ps_ret pe_bl)) pss_nil)
      (pss_cons (ps_if (pt_cmpR (op_neD hr.units) (pe_lst (pa_cons (C8.pe_mt m_Book_says hr (by first | decide | exact hkp) (pv 0) (pa_cons pe_int (pa_cons pe_int pa_nil))) (pa_cons (C8.pe_mt m_Book_says hr (by first | decide | exact hkp) (pv 0) (pa_cons pe_int (pa_cons pe_int pa_nil))) (pa_cons (C8.pe_mt m_Book_says hr (by first | decide | exact hkp) (pv 0) (pa_cons pe_int (pa_cons pe_int pa_nil))) pa_nil)))) (pe_lst (pa_cons pe_str (pa_cons pe_str (pa_cons pe_str pa_nil)))) (nomark _)) (pss_one (ps_ret pe_bl)) pss_nil)
      (pss_cons (ps_if (PW.pt (pw_or (pt_cmpR op_ne (C8.pe_c f__law_kind hr (by first | decide | exact hkp) (by rfl) (pa_cons (pv 0) (pa_cons (C8.pe_mt0 m_Book_all_words hr (by first | decide | exact hkp) (pv 1)) pa_nil))) pe_int (nomark _)) (pw_or1 (pt_cmpR op_ne (C8.pe_c f__law_kind hr (by first | decide | exact hkp) (by rfl) (pa_cons (pv 1) (pa_cons (C8.pe_mt0 m_Book_all_words hr (by first | decide | exact hkp) (pv 0)) pa_nil))) pe_int (nomark _))))) (pss_one (ps_ret pe_bl)) pss_nil)
      (pss_cons (ps_if (PW.pt (pw_or (pt_cmpR (op_neD hr.units) (C8.pe_mt0 m_Book_all_words hr (by first | decide | exact hkp) (pv 0)) (pl_lst (pls_cons (pl_tup (pls_cons pl_int (pls_cons pl_int (pls_cons pl_int (pls_cons pl_int (pls_cons pl_str pls_nil)))))) pls_nil)) (nomark _)) (pw_or1 (pt_cmpR (op_neD hr.units) (C8.pe_mt0 m_Book_all_words hr (by first | decide | exact hkp) (pv 1)) (pl_lst (pls_cons (pl_tup (pls_cons pl_int (pls_cons pl_int (pls_cons pl_int (pls_cons pl_int (pls_cons pl_str pls_nil)))))) pls_nil)) (nomark _))))) (pss_one (ps_ret pe_bl)) pss_nil)
      (pss_cons (ps_if (PW.pt (pw_or (pt_cmpR op_ne (C8.pe_mt m_Book_hear hr (by first | decide | exact hkp) (pv 0) (pa_cons (pl_lst (pls_cons (pl_tup (pls_cons pl_int (pls_cons pl_int (pls_cons pl_int (pls_cons pl_int (pls_cons pl_str pls_nil)))))) pls_nil)) pa_nil)) pe_int (nomark _)) (pw_or (pt_cmpR op_ne (C8.pe_mt m_Book_answer0 hr (by first | decide | exact hkp) (pv 0) (pa_cons pe_int (pa_cons pe_int (pa_cons pe_str pa_nil)))) pe_int (nomark _)) (pw_or1 (pt_cmpR op_ne (C8.pe_mt m_Book_says hr (by first | decide | exact hkp) (pv 0) (pa_cons pe_int (pa_cons pe_int pa_nil))) pe_str (nomark _)))))) (pss_one (ps_ret pe_bl)) pss_nil)
      (pss_cons (ps_set (i := 2) nd rfl (Or.inl rfl) (C8.pe_mt0 m_Book_all_words hr (by first | decide | exact hkp) (pv 0)))
      (pss_cons (ps_for PassesOwn.never rfl (pi_range1 (by rfl) T.z_range (pa_cons pe_int pa_nil)) (pg_name (i := 3) nd rfl (Or.inl rfl)) (pss_one (L2N.ps_try_as (i := 4) rfl rfl nd rfl rfl ⟨rfl, by decide, .inl e_HourError.g⟩ takesN0 (fun W pn xe tk _ => (pss_cons (ps_expr (by exact (pe_mtS m_Book_answer hr (by decide) tk (pv 0) (pa_cons pe_int (pa_cons pe_int (pa_cons pe_str pa_nil))))))
      (pss_one (ps_ret (by exact pe_bl)))))
      (fun a oe cls d pn hz hf => pss_exc (K := K) fun D0 ec ed C => (pss_one (ps_if (by exact (PW.pt (pw_or (pt_not (pt_val (pe_callB (call_isE1 C hz.zc hf ec ed) (by rfl) T.z_isinstance (by decide +kernel) (pa_cons (pv 4) (pa_cons (C8.pe_gc (by rfl) e_TooMany.cv) pa_nil))))) (pw_or1 (pt_cmpR (show OpR _ _ (rNeD K) from op_neD hr.units) (pe_mtH0 mh_Book_all_words (roomS hr) (by decide) (hot_of hz hf) (pv 0)) (pv 2) (nomark _)))))) (pss_one (ps_ret (by exact pe_bl))) pss_nil))))))
      (pss_one (ps_ret (pe_and (pe_cmpR op_eq (C8.pe_mt m_Book_hear hr (by first | decide | exact hkp) (pv 0) (pa_cons (pl_lst (pls_cons (pl_tup (pls_cons pl_int (pls_cons pl_int (pls_cons pl_int (pls_cons pl_int (pls_cons pl_str pls_nil)))))) pls_nil)) pa_nil)) pe_int (nomark _)) (pe_and (pe_cmpR op_eq (C8.pe_mt m_Book_says hr (by first | decide | exact hkp) (pv 0) (pa_cons pe_int (pa_cons pe_int pa_nil))) pe_str (nomark _)) (pe_one (pe_cmpR op_eq (C8.pe_mt m_Book_hear hr (by first | decide | exact hkp) (pv 0) (pa_cons (pv 2) pa_nil)) pe_int (nomark _))))))))))))))), ?_⟩
    refine fun x dx nx ndx nxx => ?_
    refine ⟨H, x, dx, 1, rfl, by decide, by decide, rfl, nx, ndx, nxx, fun G1 kn g1 nkn nkx B1 => ⟨rfl, fun y dy ny ndy nyy => ?_⟩⟩
    refine ⟨G1, y, dy, 1, rfl, by decide, by decide, rfl, ny, ndy, nyy, fun G2 km g2 nkm nky B2 => ⟨rfl, _, _, rfl, ?_⟩⟩
    have S0 := S2.made nx g1 nkn B1 ny g2 nkm B2
    clear B1 B2 nkn nkm nx ny ndx ndy nxx nyy nkx nky g1 g2
    dsimp only
    show tSeq (tIfS _ _ _) _ _ _ _
    refine seq_cut (fun σ' Z => σ' = [some (.ref x), some (.ref y), none, none, none] ∧ S2 cBo H Z x y [vA] [vB]) (fun D hD => ?_) ?_
    · obtain ⟨dx, kn, ts, B, fk, q1, q2⟩ := S0.a
      refine ⟨_, rfl, x, dx, _, rfl, B.ob, rfl, x, dx, kn, 1, 7, 11, "yes", ts, [], rfl, B, by decide, by decide, by decide, by decide, by decide, by decide, by decide, fun Z1 t1 z1 nt1 B1 => ?_⟩
      have S1 : S2 cBo H Z1 x y [vA] [] := q1 Z1 _ _ z1 B1
      obtain ⟨dy, km, us, B, fm, q3⟩ := S1.b
      refine ⟨_, rfl, y, dy, _, rfl, B.ob, rfl, y, dy, km, 1, 7, 10, "yes", us, [], rfl, B, by decide, by decide, by decide, by decide, by decide, by decide, by decide, fun Z2 t2 z2 nt2 B2 => ?_⟩
      have S2_ : S2 cBo H Z2 x y [vA] [vB] := q3 Z2 _ _ z2 B2
      refine ⟨(by show 2 ≤ sizeLine; decide), fun l1 nl1 => ?_⟩
      rw [show ([.int (nextC []), .int (nextC [])] : List V) = ([1, 1] : List Int).map V.int from rfl]
      have z3 : Kx Z2 (upd Z2 l1 (.lst (([1, 1] : List Int).map V.int))) := Kx.new nl1
      have hl1 : (upd Z2 l1 (.lst (([1, 1] : List Int).map V.int))) l1 = some (.lst (([1, 1] : List Int).map V.int)) := upd_same
      generalize upd Z2 l1 (.lst (([1, 1] : List Int).map V.int)) = Z3 at z3 hl1 ⊢
      refine ⟨(by show 2 ≤ sizeLine; decide), fun l2 nl2 => ?_⟩
      rw [show ([.int 1, .int 1] : List V) = ([1, 1] : List Int).map V.int from rfl]
      have z4 : Kx Z3 (upd Z3 l2 (.lst (([1, 1] : List Int).map V.int))) := Kx.new nl2
      have hl2 : (upd Z3 l2 (.lst (([1, 1] : List Int).map V.int))) l2 = some (.lst (([1, 1] : List Int).map V.int)) := upd_same
      generalize upd Z3 l2 (.lst (([1, 1] : List Int).map V.int)) = Z4 at z4 hl2 ⊢
      refine ⟨isD _, isD _, isD_dp (sq_of (z4.lst hl1)), isD_dp (sq_of hl2), isD_sh _, isD_sh _, _, rfl, ?_⟩
      rw [isD_eqv, decide_eq_true rfl]
      exact iteF (hD _ _ ⟨rfl, S2_.kx (z3.trans z4)⟩)
    rintro _ Y1 ⟨rfl, S1⟩
    clear S0
    show tSeq (tIfS _ _ _) _ _ _ _
    refine seq_cut (fun σ' Z => σ' = [some (.ref x), some (.ref y), none, none, none] ∧ S2 cBo H Z x y [vA] [vB]) (fun D hD => ?_) ?_
    · obtain ⟨dx, kn, ts, B, fk, q1, q2⟩ := S1.a
      have al : Alike [vA] := by decide +kernel
      refine ⟨_, rfl, x, dx, _, rfl, B.ob, rfl, x, dx, kn, 1, 7, 11, ts, [vA], rfl, B, by decide, by decide, by decide, by decide, by decide, al, fun Z1 z1 => ?_⟩
      have B1 := B.k z1
      refine ⟨_, rfl, x, dx, _, rfl, B1.ob, rfl, x, dx, kn, 1, 7, 10, ts, [vA], rfl, B1, by decide, by decide, by decide, by decide, by decide, al, fun Z2 z2 => ?_⟩
      have B2 := B1.k z2
      refine ⟨_, rfl, x, dx, _, rfl, B2.ob, rfl, x, dx, kn, 1, 6, 11, ts, [vA], rfl, B2, by decide, by decide, by decide, by decide, by decide, al, fun Z3 z3 => ?_⟩
      refine ⟨(by show 3 ≤ sizeLine; decide), fun l1 nl1 => ?_⟩
      rw [show ([.str (ansF [vA] 7 11), .str (ansF [vA] 7 10), .str (ansF [vA] 6 11)] : List V) = (["yes", "no", "no"] : List Str).map V.str by
        rw [show ansF [vA] 7 11 = "yes" by decide +kernel, show ansF [vA] 7 10 = "no" by decide +kernel, show ansF [vA] 6 11 = "no" by decide +kernel] <;> rfl]
      have z4 : Kx Z3 (upd Z3 l1 (.lst ((["yes", "no", "no"] : List Str).map V.str))) := Kx.new nl1
      have hl1 : (upd Z3 l1 (.lst ((["yes", "no", "no"] : List Str).map V.str))) l1 = some (.lst ((["yes", "no", "no"] : List Str).map V.str)) := upd_same
      generalize upd Z3 l1 (.lst ((["yes", "no", "no"] : List Str).map V.str)) = Z4 at z4 hl1 ⊢
      refine ⟨(by show 3 ≤ sizeLine; decide), fun l2 nl2 => ?_⟩
      rw [show ([.str "yes", .str "no", .str "no"] : List V) = (["yes", "no", "no"] : List Str).map V.str from rfl]
      have z5 : Kx Z4 (upd Z4 l2 (.lst ((["yes", "no", "no"] : List Str).map V.str))) := Kx.new nl2
      have hl2 : (upd Z4 l2 (.lst ((["yes", "no", "no"] : List Str).map V.str))) l2 = some (.lst ((["yes", "no", "no"] : List Str).map V.str)) := upd_same
      generalize upd Z4 l2 (.lst ((["yes", "no", "no"] : List Str).map V.str)) = Z5 at z5 hl2 ⊢
      refine ⟨ssD _, ssD _, ssD_dp (sq_of (z5.lst hl1)), ssD_dp (sq_of hl2), by decide +kernel, by decide +kernel, _, rfl, ?_⟩
      rw [ssD_eqv, decide_eq_true rfl]
      exact iteF (hD _ _ ⟨rfl, S1.kx ((z1.trans z2).trans ((z3.trans z4).trans z5))⟩)
    rintro _ Y2 ⟨rfl, S2_⟩
    clear S1
    show tSeq (tIfS _ _ _) _ _ _ _
    refine seq_cut (fun σ' Z => σ' = [some (.ref x), some (.ref y), none, none, none] ∧ S2 cBo H Z x y [vA] [vB]) (fun D hD => ?_) ?_
    · obtain ⟨dx, kn, ts, B, fk, q1, q2⟩ := S2_.a
      obtain ⟨dy, km, us, C, fm, _⟩ := S2_.b
      have gA : Good [vA] := ⟨by decide, by decide +kernel⟩
      have gB : Good [vB] := ⟨by decide, by decide +kernel⟩
      have aA_ : Alike [vA] := by decide +kernel
      have aB : Alike [vB] := by decide +kernel
      have n1 : ¬ Alike ([vA] ++ [vB]) := by decide +kernel
      have n2 : ¬ Alike ([vB] ++ [vA]) := by decide +kernel
      refine ⟨_, rfl, _, rfl, y, dy, _, rfl, C.ob, rfl, y, dy, km, 1, us, [vB], rfl, C, fun Z1 r1 z1 nr1 hr1 => ?_⟩
      have B1 := B.k z1
      refine ⟨x, dx, kn, r1, 1, ts, [vA], [vB], rfl, B1, ⟨us, sq_of hr1, (C.ws.k z1).w⟩, gA, gB, aA_, aB, fun al => absurd al n1, fun _ Z2 z2 => ?_, fun al => absurd al n1⟩
      refine ⟨rfl, _, rfl, ite0 rfl ?_⟩
      have B2 := B1.k z2
      have C2 := (C.k z1).k z2
      refine ⟨_, rfl, _, rfl, x, dx, _, rfl, B2.ob, rfl, x, dx, kn, 1, ts, [vA], rfl, B2, fun Z3 r3 z3 nr3 hr3 => ?_⟩
      have C3 := C2.k z3
      refine ⟨y, dy, km, r3, 1, us, [vB], [vA], rfl, C3, ⟨ts, sq_of hr3, (B2.ws.k z3).w⟩, gB, gA, aB, aA_, fun al => absurd al n2, fun _ Z4 z4 => ?_, fun al => absurd al n2⟩
      refine ⟨rfl, _, rfl, ite0 rfl ?_⟩
      exact hD _ _ ⟨rfl, S2_.kx ((z1.trans z2).trans (z3.trans z4))⟩
    rintro _ Y3 ⟨rfl, S3⟩
    clear S2_
    show tSeq (tIfS _ _ _) _ _ _ _
    refine seq_cut (fun σ' Z => σ' = [some (.ref x), some (.ref y), none, none, none] ∧ S2 cBo H Z x y [vA] [vB]) (fun D hD => ?_) ?_
    · obtain ⟨dx, kn, ts, B, fk, q1, q2⟩ := S3.a
      obtain ⟨dy, km, us, C, fm, _⟩ := S3.b
      have oA : ∀ x ∈ [vA], x.ok := by decide +kernel
      have oB : ∀ x ∈ [vB], x.ok := by decide +kernel
      refine ⟨_, rfl, x, dx, _, rfl, B.ob, rfl, x, dx, kn, 1, ts, [vA], rfl, B, fun Z1 r1 z1 nr1 hr1 => fun v Z2 z2 lt2 => ?_⟩
      obtain ⟨l2, ts2, rfl, hl2, ht2⟩ := words_lt (ws := [vA]) lt2
      refine ⟨wsD [vA], wsD [vA], wsD_dp ⟨ts, sq_of (z2.lst hr1), (B.ws.k (z1.trans z2)).w⟩, wsD_dp ⟨ts2, sq_of hl2, ht2.w⟩, wsD_sh oA, wsD_sh oA, _, rfl, ?_⟩
      rw [wsD_eqv, decide_eq_true rfl]
      refine iteF ?_
      have C2 := C.k (z1.trans z2)
      refine ⟨_, rfl, y, dy, _, rfl, C2.ob, rfl, y, dy, km, 1, us, [vB], rfl, C2, fun Z3 r3 z3 nr3 hr3 => fun v Z4 z4 lt4 => ?_⟩
      obtain ⟨l4, ts4, rfl, hl4, ht4⟩ := words_lt (ws := [vB]) lt4
      refine ⟨wsD [vB], wsD [vB], wsD_dp ⟨us, sq_of (z4.lst hr3), (C2.ws.k (z3.trans z4)).w⟩, wsD_dp ⟨ts4, sq_of hl4, ht4.w⟩, wsD_sh oB, wsD_sh oB, _, rfl, ?_⟩
      rw [wsD_eqv, decide_eq_true rfl]
      exact iteF (hD _ _ ⟨rfl, S3.kx ((z1.trans z2).trans (z3.trans z4))⟩)
    rintro _ Y4 ⟨rfl, S4⟩
    clear S3
    show tSeq (tIfS _ _ _) _ _ _ _
    refine seq_cut (fun σ' Z => σ' = [some (.ref x), some (.ref y), none, none, none] ∧ S2 cBo H Z x y [vA, vC, vD] [vB]) (fun D hD => ?_) ?_
    · obtain ⟨dx, kn, ts, B, fk, q1, q2⟩ := S4.a
      refine ⟨_, rfl, x, dx, _, rfl, B.ob, rfl, fun v Z1 z1 lt1 => ?_⟩
      obtain ⟨l1, ts1, rfl, hl1, ht1⟩ := words_lt (ws := [vC]) lt1
      have S5 : S2 cBo H Z1 x y [vA] [vB] := S4.kx z1
      obtain ⟨dx, kn, ts, B, fk, q1, q2⟩ := S5.a
      refine ⟨x, dx, kn, l1, 1, ts, [vA], [vC], [vA, vC], rfl, B, ⟨ts1, sq_of hl1, ht1.w⟩, ⟨by decide, by decide +kernel⟩, ⟨by decide, by decide +kernel⟩, by decide +kernel, once_all (by decide +kernel) (by decide +kernel) (by decide +kernel), by decide, fun Z2 r2 ts2 z2 nr2 B2 => ?_⟩
      have S6 : S2 cBo H Z2 x y [vA, vC] [vB] := q2 Z2 r2 ts2 _ z2 nr2 B2
      refine ⟨rfl, _, rfl, ite0 rfl ?_⟩
      obtain ⟨dx, kn, ts, B, fk, q1, q2⟩ := S6.a
      refine ⟨_, rfl, x, dx, _, rfl, B.ob, rfl, x, dx, kn, 1, 0, 0, "yes", ts, [vA, vC], rfl, B, by decide, by decide, by decide, by decide, by decide, by decide +kernel, by decide, fun Z3 t3 z3 nt3 B3 => ?_⟩
      have S7 : S2 cBo H Z3 x y [vA, vC, vD] [vB] := q1 Z3 _ _ z3 B3
      refine ⟨rfl, _, rfl, ite0 rfl ?_⟩
      obtain ⟨dx, kn, ts, B, fk, q1, q2⟩ := S7.a
      refine ⟨_, rfl, x, dx, _, rfl, B.ob, rfl, x, dx, kn, 1, 0, 0, ts, [vA, vC, vD], rfl, B, by decide, by decide, by decide, by decide, by decide, by decide +kernel, fun Z4 z4 => ?_⟩
      rw [show ansF [vA, vC, vD] 0 0 = "yes" by decide +kernel]
      refine ⟨rfl, _, rfl, ite0 (by decide +kernel) ?_⟩
      exact hD _ _ ⟨rfl, S7.kx z4⟩
    rintro _ Y5 ⟨rfl, S5⟩
    clear S4
    obtain ⟨dx, kn, ts, B, fk, q1, q2⟩ := S5.a
    refine ⟨_, rfl, x, dx, _, rfl, B.ob, rfl, x, dx, kn, 1, ts, [vA, vC, vD], rfl, B, fun Y6 r6 y6 nr6 hr6 => ?_⟩
    have S6 : S2 cBo H Y6 x y [vA, vC, vD] [vB] := S5.kx y6
    have ht6 := B.ws.k y6
    clear q1 q2 B S5
    have o3 : ∀ x ∈ [vA, vC, vD], x.ok := by decide +kernel
    have al3 : Alike [vA, vC, vD] := by decide +kernel
    dsimp only
    show tSeq (tFor _ _ _) _ _ _ _
    refine seq_cut (fun σ' Z => ∃ v3 v4 : Option V, σ' = [some (.ref x), some (.ref y), some (.ref r6), v3, v4] ∧ Kx Y6 Z) (fun D hD => ?_) ?_
    · refine tfor_range (n := 2) (by decide) (fun i σ Z => ∃ v3 v4 : Option V, σ = [some (.ref x), some (.ref y), some (.ref r6), v3, v4] ∧ Kx Y6 Z) ⟨none, none, rfl, Kx.refl Y6⟩ ?_ ?_
      · rintro i σ Z hi ⟨v3, v4, rfl, kz⟩
        have S7 : S2 cBo H Z x y [vA, vC, vD] [vB] := S6.kx kz
        obtain ⟨dx, kn, ts, B, fk, q1, q2⟩ := S7.a
        refine ⟨_, rfl, x, dx, _, rfl, B.ob, rfl, x, dx, kn, 1, 0, 1, "yes", ts, [vA, vC, vD], rfl, B, by decide, by decide, by decide, by decide, by decide, by decide, fun z => absurd z.1 (by decide), fun _ Z1 z1 => ?_⟩
        refine ⟨true, kd.hT, fun _ ea hea => ⟨cT, rfl, rfl, e_TooMany.c, ?_⟩, fun q => nomatch q⟩
        have B1 := B.k z1
        refine ⟨_, rfl, .ref cT, .ref cT, true, rfl, fun u h => h, kd.tt, true, rfl, iteF ?_⟩
        refine ⟨_, rfl, x, dx, _, rfl, B1.ob, rfl, x, dx, kn, 1, ts, [vA, vC, vD], rfl, B1, fun Z2 r2 z2 nr2 hr2 => ?_⟩
        have z12 := z1.trans z2
        refine ⟨_, rfl, wsD _, wsD _, wsD_dp ⟨ts, sq_of hr2, (B1.ws.k z2).w⟩, wsD_dp ⟨_, sq_of ((kz.trans z12).lst hr6), (ht6.k (kz.trans z12)).w⟩, wsD_sh o3, wsD_sh o3, _, rfl, ?_⟩
        rw [wsD_eqv, decide_eq_true rfl]
        exact iteF ⟨_, _, rfl, kz.trans z12⟩
      · rintro σ Z ⟨v3, v4, rfl, kz⟩
        exact hD _ _ ⟨v3, v4, rfl, kz⟩
    rintro _ Y7 ⟨v3, v4, rfl, y7⟩
    have S7 : S2 cBo H Y7 x y [vA, vC, vD] [vB] := S6.kx y7
    obtain ⟨dx, kn, ts, B, fk, q1, q2⟩ := S7.a
    refine ⟨_, rfl, x, dx, _, rfl, B.ob, rfl, fun v Z1 z1 lt1 => ?_⟩
    obtain ⟨l1, ts1, rfl, hl1, ht1⟩ := words_lt (ws := [vE]) lt1
    have S8 : S2 cBo H Z1 x y [vA, vC, vD] [vB] := S7.kx z1
    obtain ⟨dx, kn, ts, B, fk, q1, q2⟩ := S8.a
    refine ⟨x, dx, kn, l1, 1, ts, [vA, vC, vD], [vE], [vA, vC, vD, vE], rfl, B, ⟨ts1, sq_of hl1, ht1.w⟩, ⟨by decide, o3⟩, ⟨by decide, by decide +kernel⟩, by decide +kernel, once_all (by decide +kernel) (by decide +kernel) (by decide +kernel), by decide, fun Z2 r2 ts2 z2 nr2 B2 => ?_⟩
    have S9 : S2 cBo H Z2 x y [vA, vC, vD, vE] [vB] := q2 Z2 r2 ts2 _ z2 nr2 B2
    have hr6b : Z2 r6 = some (.lst (_ : List V)) := Ke.lst1 z2 (fun e => by have := B.ob; rw [← e, (y7.trans z1).lst hr6] at this; cases this) ((y7.trans z1).lst hr6)
    have ht6b := tat_ke z2 B.ob (fun ys e => by cases e) (ht6.k (y7.trans z1))
    refine ⟨rfl, true, rfl, iteT ?_⟩
    obtain ⟨dx, kn, ts, B, fk, q1, q2⟩ := S9.a
    refine ⟨_, rfl, x, dx, _, rfl, B.ob, rfl, x, dx, kn, 1, 0, 0, ts, [vA, vC, vD, vE], rfl, B, by decide, by decide, by decide, by decide, by decide, by decide +kernel, fun Z3 z3 => ?_⟩
    rw [show ansF [vA, vC, vD, vE] 0 0 = "maybe" by decide +kernel]
    refine ⟨rfl, true, by decide +kernel, iteT ?_⟩
    have S10 : S2 cBo H Z3 x y [vA, vC, vD, vE] [vB] := S9.kx z3
    obtain ⟨dx, kn, ts, B, fk, q1, q2⟩ := S10.a
    refine ⟨_, rfl, x, dx, _, rfl, B.ob, rfl, _, rfl, x, dx, kn, r6, 1, ts, [vA, vC, vD, vE], [vA, vC, vD], [vA, vC, vD, vE], rfl, B, ⟨_, sq_of (z3.lst hr6b), (ht6b.k z3).w⟩, ⟨by decide, by decide +kernel⟩, ⟨by decide, o3⟩, by decide +kernel, once_all (by decide +kernel) (by decide +kernel) (by decide +kernel), by decide, fun Z4 r4 ts4 z4 nr4 B4 => ?_⟩
    have S11 : S2 cBo H Z4 x y [vA, vC, vD, vE] [vB] := q2 Z4 r4 ts4 _ z4 nr4 B4
    refine ⟨rfl, ?_⟩
    exact q Z4 S11.k
end
end CH
end

section
set_option Elab.async false
set_option linter.all false
set_option maxRecDepth 100000
set_option maxHeartbeats 4000000
namespace CH
open PySem PySem.Spec PyProof.Rows L2
open GxR (TabB TabG Tabbed)
abbrev S1 (cBo : Addr) (H0 H : Hp) (x : Addr) (g : Int) (ws : List Wd) : Prop := Shelf cBo [] H0 H 1 (fun _ => x) (fun _ => g) (fun _ => ws)
theorem S1.a {cBo : Addr} {H0 H : Hp} {x : Addr} {g : Int} {ws : List Wd} (S : S1 cBo H0 H x g ws) : ∃ (dx kn : Addr) (ts : List Addr), BookAt H cBo x dx kn g ts ws ∧ H0 kn = none ∧
    (∀ (H' : Hp) (ts' : List Addr) (vs : List Wd), Ke [kn] H H' → BookAt H' cBo x dx kn g ts' vs → S1 cBo H0 H' x g vs) ∧
    (∀ (H' : Hp) (r : Addr) (ts' : List Addr) (vs : List Wd), Ke [x] H H' → H r = none → BookAt H' cBo x dx r g ts' vs → S1 cBo H0 H' x g vs) := by
  obtain ⟨dx, kn, ts, B, f, _, q1, q2⟩ := Shelf.at_ S (i := 0) (by decide)
  have e : ∀ {vs : List Wd} (i : Nat), i < 1 → up (fun _ => ws) 0 vs i = vs := fun {vs} i hi => by
    match i, hi with
    | 0, _ => rfl
  exact ⟨dx, kn, ts, B, f, fun H' ts' vs k B' => (q1 H' ts' vs k B').congr (fun _ _ => rfl) (fun _ _ => rfl) e, fun H' r ts' vs k n B' => (q2 H' r ts' vs k n B').congr (fun _ _ => rfl) (fun _ _ => rfl) e⟩
theorem S1.made {cBo : Addr} {H0 G1 : Hp} {x dx kn : Addr} {g : Int} (nx : H0 x = none) (k1 : Kx H0 G1) (nk : H0 kn = none) (B1 : BookAt G1 cBo x dx kn g [] []) : S1 cBo H0 G1 x g [] := by
  have S0 : Shelf cBo [] H0 H0 0 (fun _ => x) (fun _ => g) (fun _ => []) := Shelf.none_
  refine (S0.new nx k1 nk B1).congr (fun i hi => ?_) (fun i hi => ?_) (fun i hi => ?_)
  all_goals
    match i, hi with
    | 0, _ => rfl
def uA : Wd := ⟨1, 0, 7, 11, "yes"⟩
def uB : List Wd := [⟨5, 1, 0, 0, "no"⟩, ⟨1, 0, 7, 11, "no"⟩]
def hW (j : Nat) : Wd := ⟨1 + (0 + (j : Int)), 1, 0, 0, "no"⟩
def h78 : List Wd := (List.range 78).map hW
theorem h78_len : h78.length = 78 := by
  unfold h78
  rw [List.length_map, List.length_range]
theorem h78_ok : ∀ x ∈ h78, x.ok := by decide +kernel
def u79 : List Wd := uA :: h78
theorem u79_len : u79.length = 79 := by
  unfold u79
  rw [List.length_cons, h78_len]
theorem u79_ok : ∀ x ∈ u79, x.ok := by decide +kernel
def uD : Wd := ⟨79, 0, 0, 0, "maybe"⟩
def u80 : List Wd := u79 ++ [uD]
theorem u80_len : u80.length = 80 := by
  unfold u80
  rw [List.length_append, u79_len] <;> rfl
theorem u80_ok : ∀ x ∈ u80, x.ok := by decide +kernel
theorem u80_ord : u80.Pairwise plt := by decide +kernel
theorem u79_ord : u79.Pairwise plt := (List.pairwise_append.mp u80_ord).1
theorem h78_ord : h78.Pairwise plt := (List.pairwise_cons.mp u79_ord).2
theorem pw_alike {us : List Wd} (h : us.Pairwise plt) : Alike us := by
  have d : Diff us := List.Pairwise.imp (fun {a b} z e => by
    have := kW_inj e
    unfold plt at z
    omega) h
  exact d.alike
def uC : List Wd := [⟨1, 2, 0, 0, "no"⟩, ⟨2, 2, 0, 0, "no"⟩]
theorem u81_df : Diff (u79 ++ uC) := by
  unfold Diff
  decide +kernel
theorem diff_nodup {ws : List Wd} (h : Diff ws) : ws.Nodup := List.Pairwise.imp (fun {a b} z e => z (by rw [e])) h
theorem u79_next : nextC u79 = 79 := by decide +kernel
theorem u80_says : ansF u80 0 0 = "maybe" := by decide +kernel
def uE : List Wd := [⟨1, 0, 7, 11, "no"⟩, ⟨3, 3, 0, 0, "no"⟩]
theorem uB_no : ¬ Alike ([uA] ++ uB) := by decide +kernel
theorem uE_no : ¬ Alike (u80 ++ uE) := fun al => by
  have m1 : uA ∈ u80 := List.mem_append_left _ List.mem_cons_self
  have e := al uA (List.mem_append_left _ m1) ⟨1, 0, 7, 11, "no"⟩ (List.mem_append_right _ List.mem_cons_self) rfl rfl
  exact absurd (congrArg Wd.a e) (by decide)
def uF : List Wd := [⟨40, 0, 1, 1, "yes"⟩, ⟨7, 3, 1, 1, "no"⟩]
def uG : List Wd := [⟨7, 3, 1, 1, "no"⟩, ⟨40, 0, 1, 1, "yes"⟩]
section
variable {P : Program} {w : World} {K : PySem.W.Frag} {mg : Str → Option Value} {base : Heap} {c aA cBo : Addr}
abbrev st_law_hear_right : Stmt := top 46
abbrev nm_law_hear_right : List Str := ["_law_book", "_law_at", "_law_known", "_law_shown"]
theorem sc_law_hear_right : FnScope nm_law_hear_right [] (defScope st_law_hear_right) := C8.fnScope_by (by decide +kernel)
theorem ok_law_hear_right (D : DefT K mg "_law_hear_right" st_law_hear_right c) (T : Tx K mg aA)
    (k_Book : C8.Mak P w K mg base 5 "Book" cBo (sp_Book_init K cBo) []) (m_Book_answer : C8.Met P w K mg base 5 cBo "answer" (sp_answer0 K cBo) []) (m_Book_hear : C8.Met P w K mg base 8 cBo "hear" (sp_hear0 K cBo) [])
    (m_Book_all_words : C8.Met P w K mg base 1 cBo "all_words" (sp_all_words K cBo) []) (m_Book_says : C8.Met P w K mg base 5 cBo "says" (sp_says K cBo) []) (f__law_kind : C8.Cal P w K mg base 9 "_law_kind" (sp_law_kind K cBo) []) (f__law_two_right : C8.Cal P w K mg base 10 "_law_two_right" sp_two []) : C8.Cal P w K mg base 11 "_law_hear_right" sp_two [] := by
  refine cal_of D sc_law_hear_right (fun _ _ _ _ _ _ us hl => match us, hl with | [], _ => rfl) (fun vs H Q E h => ?_) (fun fa A outer s H vs Q E hr h => ?_)
  · obtain ⟨rfl, _⟩ := h
    rfl
  · obtain ⟨rfl, q⟩ := h
    have nd := sc_law_hear_right.nd
    have hu := hu_of hr
    refine ⟨_, (pss_cons (ps_set (i := 0) nd rfl (Or.inl rfl) (C8.pe_mk k_Book hr (by first | decide | exact hkp) (by rfl) (pa_cons pe_int pa_nil)))
      (pss_cons (ps_if (PW.pt (pw_or (pt_cmpR op_ne (C8.pe_mt m_Book_answer hr (by first | decide | exact hkp) (pv 0) (pa_cons pe_int (pa_cons pe_int (pa_cons pe_str pa_nil)))) pe_int (nomark _)) (pw_or1 (pt_cmpR op_ne (C8.pe_c f__law_kind hr (by first | decide | exact hkp) (by rfl) (pa_cons (pv 0) (pa_cons (pl_lst (pls_cons (pl_tup (pls_cons pl_int (pls_cons pl_int (pls_cons pl_int (pls_cons pl_int (pls_cons pl_str pls_nil)))))) (pls_cons (pl_tup (pls_cons pl_int (pls_cons pl_int (pls_cons pl_int (pls_cons pl_int (pls_cons pl_str pls_nil)))))) pls_nil))) pa_nil))) pe_int (nomark _))))) (pss_one (ps_ret pe_bl)) pss_nil)
      (pss_cons (ps_if (PW.pt (pw_or (pt_cmpR (op_neD hr.units) (C8.pe_mt0 m_Book_all_words hr (by first | decide | exact hkp) (pv 0)) (pl_lst (pls_cons (pl_tup (pls_cons pl_int (pls_cons pl_int (pls_cons pl_int (pls_cons pl_int (pls_cons pl_str pls_nil)))))) pls_nil)) (nomark _)) (pw_or1 (pt_cmpR op_ne (C8.pe_mt m_Book_hear hr (by first | decide | exact hkp) (pv 0) (pa_cons (pe_lc (own := [("_law_at", 1)]) (g := gName 1) (tt := tYes) (by rfl) nd (pi_range1 (by rfl) T.z_range (pa_cons pe_int pa_nil)) (blkOk_by (own := [("_law_at", 1)]) (N := nm_law_hear_right) (sc := defScope st_law_hear_right) (by decide +kernel)) (fun _ _ _ _ _ => pg_name (i := 1) nd rfl (Or.inl rfl)) (fun _ _ _ _ _ => pts_nil) (fun _ _ _ _ _ => (pe_tup (pa_cons (pe_op op_add pe_int (pv 1)) (pa_cons pe_int (pa_cons pe_int (pa_cons pe_int (pa_cons pe_str pa_nil)))))))) pa_nil)) pe_int (nomark _))))) (pss_one (ps_ret pe_bl)) pss_nil)
      (pss_cons (ps_set (i := 2) nd rfl (Or.inl rfl) (C8.pe_mt0 m_Book_all_words hr (by first | decide | exact hkp) (pv 0)))
      (pss_cons (ps_if (PW.pt (pw_or (pt_cmpR op_ne (C8.pe_c f__law_kind hr (by first | decide | exact hkp) (by rfl) (pa_cons (pv 0) (pa_cons (pl_lst (pls_cons (pl_tup (pls_cons pl_int (pls_cons pl_int (pls_cons pl_int (pls_cons pl_int (pls_cons pl_str pls_nil)))))) (pls_cons (pl_tup (pls_cons pl_int (pls_cons pl_int (pls_cons pl_int (pls_cons pl_int (pls_cons pl_str pls_nil)))))) pls_nil))) pa_nil))) pe_int (nomark _)) (pw_or1 (pt_cmpR (op_neD hr.units) (C8.pe_mt0 m_Book_all_words hr (by first | decide | exact hkp) (pv 0)) (pv 2) (nomark _))))) (pss_one (ps_ret pe_bl)) pss_nil)
      (pss_cons (ps_if (PW.pt (pw_or (pt_cmpR op_ne (C8.pe_mt m_Book_answer hr (by first | decide | exact hkp) (pv 0) (pa_cons pe_int (pa_cons pe_int (pa_cons pe_str pa_nil)))) pe_int (nomark _)) (pw_or (pt_cmpR op_ne (C8.pe_mt m_Book_says hr (by first | decide | exact hkp) (pv 0) (pa_cons pe_int (pa_cons pe_int pa_nil))) pe_str (nomark _)) (pw_or1 (pt_cmpR op_ne (C8.pe_mt m_Book_hear hr (by first | decide | exact hkp) (pv 0) (pa_cons (C8.pe_mt0 m_Book_all_words hr (by first | decide | exact hkp) (pv 0)) pa_nil)) pe_int (nomark _)))))) (pss_one (ps_ret pe_bl)) pss_nil)
      (pss_cons (ps_if (PW.pt (pw_or (pt_cmpR op_ne (C8.pe_c f__law_kind hr (by first | decide | exact hkp) (by rfl) (pa_cons (pv 0) (pa_cons (pl_lst (pls_cons (pl_tup (pls_cons pl_int (pls_cons pl_int (pls_cons pl_int (pls_cons pl_int (pls_cons pl_str pls_nil)))))) (pls_cons (pl_tup (pls_cons pl_int (pls_cons pl_int (pls_cons pl_int (pls_cons pl_int (pls_cons pl_str pls_nil)))))) pls_nil))) pa_nil))) pe_int (nomark _)) (pw_or1 (pt_cmpR op_ne (pe_callB call_len_seq (by rfl) T.z_len PySem.boot_len (pa_cons (C8.pe_mt0 m_Book_all_words hr (by first | decide | exact hkp) (pv 0)) pa_nil)) pe_int (nomark _))))) (pss_one (ps_ret pe_bl)) pss_nil)
      (pss_cons (ps_if (pt_not (pt_val (pe_c0 f__law_two_right hr (by first | decide | exact hkp) (by rfl)))) (pss_one (ps_ret pe_bl)) pss_nil)
      (pss_cons (ps_set (i := 0) nd rfl (Or.inl rfl) (C8.pe_mk k_Book hr (by first | decide | exact hkp) (by rfl) (pa_cons pe_int pa_nil)))
      (pss_cons (ps_set (i := 3) nd rfl (Or.inl rfl) (pe_lst (pa_cons (C8.pe_mt m_Book_hear hr (by first | decide | exact hkp) (pv 0) (pa_cons (pl_lst (pls_cons (pl_tup (pls_cons pl_int (pls_cons pl_int (pls_cons pl_int (pls_cons pl_int (pls_cons pl_str pls_nil)))))) (pls_cons (pl_tup (pls_cons pl_int (pls_cons pl_int (pls_cons pl_int (pls_cons pl_int (pls_cons pl_str pls_nil)))))) pls_nil))) pa_nil)) (pa_cons (C8.pe_mt m_Book_says hr (by first | decide | exact hkp) (pv 0) (pa_cons pe_int (pa_cons pe_int pa_nil))) (pa_cons (C8.pe_mt m_Book_answer hr (by first | decide | exact hkp) (pv 0) (pa_cons pe_int (pa_cons pe_int (pa_cons pe_str pa_nil)))) pa_nil)))))
      (pss_one (ps_ret (pe_and (pe_cmpR (op_eqD hr.units) (pv 3) (pe_lst (pa_cons pe_int (pa_cons pe_str (pa_cons pe_int pa_nil)))) (nomark _)) (pe_and (pe_cmpR op_eq (C8.pe_mt m_Book_says hr (by first | decide | exact hkp) (pv 0) (pa_cons pe_int (pa_cons pe_int pa_nil))) pe_str (nomark _)) (pe_one (pe_cmpR op_eq (C8.pe_mt m_Book_says hr (by first | decide | exact hkp) (pv 0) (pa_cons pe_int (pa_cons pe_int pa_nil))) pe_str (nomark _))))))))))))))))), ?_⟩
    refine fun x dx nx ndx nxx => ?_
    refine ⟨H, x, dx, 0, rfl, by decide, by decide, rfl, nx, ndx, nxx, fun G1 kn g1 nkn nkx B1 => ⟨rfl, ?_⟩⟩
    have S0 : S1 cBo H G1 x 0 [] := S1.made nx g1 nkn B1
    clear B1 nkn nkx nx ndx nxx g1
    dsimp only
    show tSeq (tIfS _ _ _) _ _ _ _
    refine seq_cut (fun σ' Z => σ' = [some (.ref x), none, none, none] ∧ S1 cBo H Z x 0 [uA]) (fun D hD => ?_) ?_
    · obtain ⟨dx, kn, ts, B, fk, q1, q2⟩ := S0.a
      refine ⟨_, rfl, x, dx, _, rfl, B.ob, rfl, x, dx, kn, 0, 7, 11, "yes", ts, [], rfl, B, by decide, by decide, by decide, by decide, by decide, by decide, by decide, fun Z1 t1 z1 nt1 B1 => ?_⟩
      have S2 : S1 cBo H Z1 x 0 [uA] := q1 Z1 _ _ z1 B1
      refine ⟨rfl, _, rfl, ite0 rfl ?_⟩
      refine ⟨_, rfl, fun v Z2 z2 lt2 => ?_⟩
      obtain ⟨l2, ts2, rfl, hl2, ht2⟩ := words_lt (ws := uB) lt2
      have S3 : S1 cBo H Z2 x 0 [uA] := S2.kx z2
      obtain ⟨dx, kn, ts, B, fk, q1, q2⟩ := S3.a
      refine ⟨x, dx, kn, l2, 0, ts, [uA], uB, rfl, B, ⟨ts2, sq_of hl2, ht2.w⟩, ⟨by decide, by decide +kernel⟩, ⟨by decide, by decide +kernel⟩, by decide +kernel, by decide +kernel, fun al => absurd al uB_no, fun _ Z3 z3 => ?_, fun al => absurd al uB_no⟩
      exact ⟨rfl, _, rfl, ite0 rfl (hD _ _ ⟨rfl, S3.kx z3⟩)⟩
    rintro _ Y1 ⟨rfl, S2⟩
    clear S0
    show tSeq (tIfS _ _ _) _ _ _ _
    refine seq_cut (fun σ' Z => σ' = [some (.ref x), none, none, none] ∧ S1 cBo H Z x 0 u79) (fun D hD => ?_) ?_
    · obtain ⟨dx, kn, ts, B, fk, q1, q2⟩ := S2.a
      have oA : ∀ x ∈ [uA], x.ok := by decide +kernel
      refine ⟨_, rfl, x, dx, _, rfl, B.ob, rfl, x, dx, kn, 0, ts, [uA], rfl, B, fun Z1 r1 z1 nr1 hr1 => fun v Z2 z2 lt2 => ?_⟩
      obtain ⟨l2, ts2, rfl, hl2, ht2⟩ := words_lt (ws := [uA]) lt2
      refine ⟨wsD [uA], wsD [uA], wsD_dp ⟨ts, sq_of (z2.lst hr1), (B.ws.k (z1.trans z2)).w⟩, wsD_dp ⟨ts2, sq_of hl2, ht2.w⟩, wsD_sh oA, wsD_sh oA, _, rfl, ?_⟩
      rw [wsD_eqv, decide_eq_true rfl]
      refine iteF ?_
      have S3 : S1 cBo H Z2 x 0 [uA] := S2.kx (z1.trans z2)
      have B2 := B.k (z1.trans z2)
      refine ⟨_, rfl, x, dx, _, rfl, B2.ob, rfl, ?_⟩
      refine ⟨78, rfl, by decide, by decide, fun D0 nD => ?_⟩
      refine lc_range (lo := 0) (n := 78) (fun j H3 => Kx Z2 H3 ∧ ∃ us : List Addr, H3 D0 = some (.lst (us.map V.ref)) ∧ TAt H3 us ((List.range j).map hW)) ⟨Kx.new nD, [], upd_same, .nil⟩ ?_ ?_
      · rintro j H3 hj ⟨k3, us, hD, hus⟩
        have lus := paired_len hus
        rw [List.length_map, List.length_range] at lus
        refine ⟨rfl, yesT ?_⟩
        refine ⟨_, rfl, _, _, rfl, rfl, (by show 5 ≤ sizeLine; decide), fun t nt => ?_⟩
        have kt : Kx H3 (upd H3 t (.tup (hW j).V)) := Kx.new nt
        have ht : (upd H3 t (.tup (hW j).V)) t = some (.tup (hW j).V) := upd_same
        have hD' := kt.lst hD
        refine ⟨_, hD', lt80 (by rw [List.length_map]; omega), (k3.trans kt).mut nD, us ++ [t], ?_, ?_⟩
        · rw [upd_same, List.map_append] <;> rfl
        · rw [List.range_succ, List.map_append]
          exact TAt.up hD' (fun ys z => nomatch z) (paired_snoc (hus.k kt) ht)
      rintro Z3 ⟨z3, us, hD3, hus⟩
      have hus : TAt Z3 us h78 := hus
      have S4 : S1 cBo H Z3 x 0 [uA] := S3.kx z3
      obtain ⟨dx', kn', ts', B', fk', q1', q2'⟩ := S4.a
      refine ⟨x, dx', kn', D0, 0, ts', [uA], h78, u79, rfl, B', ⟨us, sq_of hD3, hus.w⟩, ⟨by decide, oA⟩, ⟨by rw [h78_len]; decide, h78_ok⟩, pw_alike (us := u79) u79_ord, ⟨fun _ => Iff.rfl, u79_ord⟩, by rw [u79_len]; decide, fun Z4 r4 ts4 z4 nr4 B4 => ?_⟩
      have S5 : S1 cBo H Z4 x 0 u79 := q2' Z4 r4 ts4 _ z4 nr4 B4
      exact ⟨rfl, _, rfl, ite0 (by rw [u79_len]; rfl) (hD _ _ ⟨rfl, S5⟩)⟩
    rintro _ Y2 ⟨rfl, S3⟩
    clear S2
    obtain ⟨dx, kn, ts, B, fk, q1, q2⟩ := S3.a
    refine ⟨_, rfl, x, dx, _, rfl, B.ob, rfl, x, dx, kn, 0, ts, u79, rfl, B, fun Y3 r3 y3 nr3 hr3 => ?_⟩
    have S4 : S1 cBo H Y3 x 0 u79 := S3.kx y3
    have ht3 := B.ws.k y3
    clear q1 q2 B fk S3
    have g79 : Good u79 := ⟨by rw [u79_len]; decide, u79_ok⟩
    have g80 : Good u80 := ⟨by rw [u80_len]; decide, u80_ok⟩
    have a79 : Alike u79 := pw_alike u79_ord
    have a80 : Alike u80 := pw_alike u80_ord
    dsimp only
    show tSeq (tIfS _ _ _) _ _ _ _
    refine seq_cut (fun σ' Z => σ' = [some (.ref x), none, some (.ref r3), none] ∧ S1 cBo H Z x 0 u79) (fun D hD => ?_) ?_
    · refine ⟨_, rfl, fun v Z2 z2 lt2 => ?_⟩
      obtain ⟨l2, ts2, rfl, hl2, ht2⟩ := words_lt (ws := uC) lt2
      have S5 : S1 cBo H Z2 x 0 u79 := S4.kx z2
      obtain ⟨dx, kn, ts, B, fk, q1, q2⟩ := S5.a
      have many : ∀ ds, Once (u79 ++ uC) ds → ds.length = 81 := fun ds ho => by
        rw [once_len_eq ho (diff_nodup u81_df), List.length_append, u79_len] <;> rfl
      refine ⟨x, dx, kn, l2, 0, ts, u79, uC, rfl, B, ⟨ts2, sq_of hl2, ht2.w⟩, g79, ⟨by decide, by decide +kernel⟩, a79, by decide +kernel, fun _ ds ho le => absurd (many ds ho) (by omega), fun na => absurd u81_df.alike na, fun _ ds ho _ Z3 z3 => ?_⟩
      refine ⟨rfl, _, rfl, ite0 rfl ?_⟩
      have B3 := B.k z3
      refine ⟨_, rfl, x, dx, _, rfl, B3.ob, rfl, x, dx, kn, 0, ts, u79, rfl, B3, fun Z4 r4 z4 nr4 hr4 => ?_⟩
      have z24 := (z2.trans z3).trans z4
      refine ⟨_, rfl, wsD _, wsD _, wsD_dp ⟨ts, sq_of hr4, (B3.ws.k z4).w⟩, wsD_dp ⟨_, sq_of (z24.lst hr3), (ht3.k z24).w⟩, wsD_sh u79_ok, wsD_sh u79_ok, _, rfl, ?_⟩
      rw [wsD_eqv, decide_eq_true rfl]
      exact iteF (hD _ _ ⟨rfl, S4.kx z24⟩)
    rintro _ Y4 ⟨rfl, S5⟩
    clear S4
    show tSeq (tIfS _ _ _) _ _ _ _
    refine seq_cut (fun σ' Z => σ' = [some (.ref x), none, some (.ref r3), none] ∧ S1 cBo H Z x 0 u80) (fun D hD => ?_) ?_
    · obtain ⟨dx, kn, ts, B, fk, q1, q2⟩ := S5.a
      refine ⟨_, rfl, x, dx, _, rfl, B.ob, rfl, x, dx, kn, 0, 0, 0, "maybe", ts, u79, rfl, B, by decide, by decide, by decide, by decide, by decide, by rw [u79_next]; decide, by rw [u79_len]; decide, fun Z1 t1 z1 nt1 B1 => ?_⟩
      rw [u79_next] at B1 ⊢
      have S6 : S1 cBo H Z1 x 0 u80 := q1 Z1 _ _ z1 B1
      refine ⟨rfl, _, rfl, ite0 rfl ?_⟩
      obtain ⟨dx, kn, ts, B, fk, q1, q2⟩ := S6.a
      refine ⟨_, rfl, x, dx, _, rfl, B.ob, rfl, x, dx, kn, 0, 0, 0, ts, u80, rfl, B, by decide, by decide, by decide, by decide, by rw [u80_len]; decide, a80, fun Z2 z2 => ?_⟩
      rw [u80_says]
      refine ⟨rfl, _, rfl, ite0 (by decide +kernel) ?_⟩
      have S7 : S1 cBo H Z2 x 0 u80 := S6.kx z2
      obtain ⟨dx, kn, ts, B, fk, q1, q2⟩ := S7.a
      refine ⟨_, rfl, x, dx, _, rfl, B.ob, rfl, _, rfl, x, dx, _, rfl, B.ob, rfl, x, dx, kn, 0, ts, u80, rfl, B, fun Z3 r3' z3 nr3 hr3 => ?_⟩
      have S8 : S1 cBo H Z3 x 0 u80 := S7.kx z3
      have htr := B.ws.k z3
      obtain ⟨dx, kn, ts', B, fk, q1, q2⟩ := S8.a
      refine ⟨x, dx, kn, r3', 0, ts', u80, u80, u80, rfl, B, ⟨ts, sq_of hr3, htr.w⟩, g80, g80, alike_sub a80 fun x hx => (List.mem_append.mp hx).elim id id, ⟨fun x => by rw [List.mem_append, or_self], u80_ord⟩, by rw [u80_len]; decide, fun Z4 r4 ts4 z4 nr4 B4 => ?_⟩
      have S9 : S1 cBo H Z4 x 0 u80 := q2 Z4 r4 ts4 _ z4 nr4 B4
      exact ⟨rfl, _, rfl, ite0 (by rw [Int.sub_self]; rfl) (hD _ _ ⟨rfl, S9⟩)⟩
    rintro _ Y5 ⟨rfl, S6⟩
    clear S5
    show tSeq (tIfS _ _ _) _ _ _ _
    refine seq_cut (fun σ' Z => σ' = [some (.ref x), none, some (.ref r3), none] ∧ Kx H Z) (fun D hD => ?_) ?_
    · refine ⟨_, rfl, fun v Z2 z2 lt2 => ?_⟩
      obtain ⟨l2, ts2, rfl, hl2, ht2⟩ := words_lt (ws := uE) lt2
      have S7 : S1 cBo H Z2 x 0 u80 := S6.kx z2
      obtain ⟨dx, kn, ts, B, fk, q1, q2⟩ := S7.a
      refine ⟨x, dx, kn, l2, 0, ts, u80, uE, rfl, B, ⟨ts2, sq_of hl2, ht2.w⟩, g80, ⟨by decide, by decide +kernel⟩, a80, by decide +kernel, fun al => absurd al uE_no, fun _ Z3 z3 => ?_, fun al => absurd al uE_no⟩
      refine ⟨rfl, _, rfl, ite0 rfl ?_⟩
      have B3 := B.k z3
      refine ⟨_, rfl, x, dx, _, rfl, B3.ob, rfl, x, dx, kn, 0, ts, u80, rfl, B3, fun Z4 r4 z4 nr4 hr4 => ?_⟩
      refine ⟨r4, _, rfl, .inl (sq_of hr4), rfl, _, rfl, ite0 (by rw [List.length_map, paired_len B3.ws, u80_len]; rfl) ?_⟩
      exact hD _ _ ⟨rfl, S7.k.trans (z3.trans z4)⟩
    rintro _ Y6 ⟨rfl, y6⟩
    clear S6
    refine ⟨rfl, fun Y7 y7 => ⟨true, rfl, iteF ?_⟩⟩
    refine fun x3 dx3 nx3 ndx3 nxx3 => ?_
    refine ⟨Y7, x3, dx3, 3, rfl, by decide, by decide, rfl, nx3, ndx3, nxx3, fun W1 kn3 w1 nkn3 nkx3 C1 => ⟨rfl, ?_⟩⟩
    have S0 : S1 cBo Y7 W1 x3 3 [] := S1.made nx3 w1 nkn3 C1
    clear C1 nkn3 nkx3 nx3 ndx3 nxx3 w1
    obtain ⟨dx, kn, ts, B, fk, q1, q2⟩ := S0.a
    refine ⟨_, rfl, x3, dx, _, rfl, B.ob, rfl, fun v Z1 z1 lt1 => ?_⟩
    obtain ⟨l1, ts1, rfl, hl1, ht1⟩ := words_lt (ws := uF) lt1
    have T1 : S1 cBo Y7 Z1 x3 3 [] := S0.kx z1
    obtain ⟨dx, kn, ts, B, fk, q1, q2⟩ := T1.a
    refine ⟨x3, dx, kn, l1, 3, ts, [], uF, uG, rfl, B, ⟨ts1, sq_of hl1, ht1.w⟩, ⟨by decide, by decide +kernel⟩, ⟨by decide, by decide +kernel⟩, by decide +kernel, once_all (by decide +kernel) (by decide +kernel) (by decide +kernel), by decide, fun Z2 r2 ts2 z2 nr2 B2 => ?_⟩
    have T2 : S1 cBo Y7 Z2 x3 3 uG := q2 Z2 r2 ts2 _ z2 nr2 B2
    obtain ⟨dx, kn, ts, B, fk, q1, q2⟩ := T2.a
    refine ⟨_, rfl, x3, dx, _, rfl, B.ob, rfl, x3, dx, kn, 3, 1, 1, ts, uG, rfl, B, by decide, by decide, by decide, by decide, by decide, by decide +kernel, fun Z3 z3 => ?_⟩
    rw [show ansF uG 1 1 = "yes" by decide +kernel]
    have T3 : S1 cBo Y7 Z3 x3 3 uG := T2.kx z3
    obtain ⟨dx, kn, ts, B, fk, q1, q2⟩ := T3.a
    refine ⟨_, rfl, x3, dx, _, rfl, B.ob, rfl, x3, dx, kn, 3, 1, 1, "no", ts, uG, rfl, B, by decide, by decide, by decide, by decide, by decide, by decide +kernel, by decide, fun Z4 t4 z4 nt4 B4 => ?_⟩
    have T4 : S1 cBo Y7 Z4 x3 3 (uG ++ [⟨41, 3, 1, 1, "no"⟩]) := q1 Z4 _ _ z4 B4
    refine ⟨(by show 3 ≤ sizeLine; decide), fun l2 nl2 => ?_⟩
    rw [show ([.int (((uG.length : Nat) : Int) - (([] : List Wd).length : Nat)), .str "yes", .int (nextC uG)] : List V) = [.int 2, .str "yes", .int 41] from rfl]
    have z5 : Kx Z4 (upd Z4 l2 (.lst [.int 2, .str "yes", .int 41])) := Kx.new nl2
    have hl2 : (upd Z4 l2 (.lst [.int 2, .str "yes", .int 41])) l2 = some (.lst [.int 2, .str "yes", .int 41]) := upd_same
    generalize upd Z4 l2 (.lst [.int 2, .str "yes", .int 41]) = Z5 at z5 hl2 ⊢
    refine ⟨_, rfl, (by show 3 ≤ sizeLine; decide), fun l3 nl3 => ?_⟩
    have z6 : Kx Z5 (upd Z5 l3 (.lst [.int 2, .str "yes", .int 41])) := Kx.new nl3
    have hl3 : (upd Z5 l3 (.lst [.int 2, .str "yes", .int 41])) l3 = some (.lst [.int 2, .str "yes", .int 41]) := upd_same
    generalize upd Z5 l3 (.lst [.int 2, .str "yes", .int 41]) = Z6 at z6 hl3 ⊢
    have dp : ∀ {Z : Hp} {l : Addr}, Z l = some (.lst [.int 2, .str "yes", .int 41]) → Dp K Z (.ref l) (.list [.int 2, .str "yes", .int 41]) := fun h => .lst (sq_of h) (.cons (.int _) (.cons (.str _) (.cons (.int _) .nil)))
    refine ⟨_, _, dp (z6.lst hl2), dp hl3, by decide +kernel, by decide +kernel, ?_⟩
    refine ⟨true, by decide +kernel, iteT ?_⟩
    have T6 : S1 cBo Y7 Z6 x3 3 (uG ++ [⟨41, 3, 1, 1, "no"⟩]) := T4.kx (z5.trans z6)
    obtain ⟨dx, kn, ts, B, fk, q1, q2⟩ := T6.a
    refine ⟨_, rfl, x3, dx, _, rfl, B.ob, rfl, x3, dx, kn, 3, 1, 1, ts, _, rfl, B, by decide, by decide, by decide, by decide, by decide, by decide +kernel, fun Z7 z7 => ?_⟩
    rw [show ansF (uG ++ [⟨41, 3, 1, 1, "no"⟩]) 1 1 = "no" by decide +kernel]
    refine ⟨rfl, true, by decide +kernel, iteT ?_⟩
    have B7 := B.k z7
    refine ⟨_, rfl, x3, dx, _, rfl, B7.ob, rfl, x3, dx, kn, 3, 2, 1, ts, _, rfl, B7, by decide, by decide, by decide, by decide, by decide, by decide +kernel, fun Z8 z8 => ?_⟩
    rw [show ansF (uG ++ [⟨41, 3, 1, 1, "no"⟩]) 2 1 = "no" by decide +kernel]
    refine ⟨rfl, ?_⟩
    rw [show decide (V.str "no" = V.str "no") = true by decide +kernel]
    exact q Z8 ((y6.trans y7).trans (T6.k.trans (z7.trans z8)))
end
end CH
end

section
set_option Elab.async false
set_option linter.all false
set_option maxRecDepth 100000
set_option maxHeartbeats 4000000
namespace CH
open PySem PySem.Spec PyProof.Rows L2
open GxR (TabB TabG Tabbed)
abbrev refsN (N : Nat) (f : Nat → Addr) : List V := (List.range N).map fun i => V.ref (f i)
theorem refsN_at {N i : Nat} {f : Nat → Addr} (h : i < N) : atI (refsN N f) ((i : Nat) : Int) = some (.ref (f i)) := atI_nat (by
  unfold refsN
  rw [List.getElem?_map, List.getElem?_range h] <;> rfl)
theorem paired_rng {α β : Type} {F : α → β → Prop} {f : Nat → α} {g : Nat → β} {N : Nat} (h : ∀ i, i < N → F (f i) (g i)) : Paired F ((List.range N).map f) ((List.range N).map g) := by
  induction N with
  | zero => exact .nil
  | succ N ih =>
    rw [List.range_succ, List.map_append, List.map_append]
    exact paired_snoc (ih fun i hi => h i (by omega)) (h N (by omega))
/-- a value that may come by several ways -/
theorem te_cut {te : TE} {σ : L2.St} {H : Hp} {Q : VK} (I : V → Hp → Prop) (h1 : ∀ Q' : VK, (∀ v H', I v H' → Q' v H') → te σ H Q') (h2 : ∀ v H', I v H' → Q v H') : te σ H Q := h1 Q h2
/-- books and what the law knows of them -/
structure P8 (cBo : Addr) (H0 : Hp) (N : Nat) (lb kl : Addr) (b ka : Nat → Addr) (H : Hp) (ws ks : Nat → List Wd) : Prop where
  sh : Shelf cBo (lb :: kl :: (List.range N).map ka) H0 H N b (fun i => ((i : Nat) : Int)) ws
  hb : H lb = some (.lst (refsN N b))
  hk : H kl = some (.lst (refsN N ka))
  kn : ∀ i, i < N → ∃ ts : List Addr, H (ka i) = some (.lst (ts.map V.ref)) ∧ TAt H ts (ks i)
  inj : ∀ i j, i < N → j < N → ka i = ka j → i = j
  ne : ∀ i, i < N → ka i ≠ lb ∧ ka i ≠ kl
  fr : ∀ i, i < N → H0 (ka i) = none
theorem P8.kx {cBo : Addr} {H0 : Hp} {N : Nat} {lb kl : Addr} {b ka : Nat → Addr} {H H' : Hp} {ws ks : Nat → List Wd} (S : P8 cBo H0 N lb kl b ka H ws ks) (k : Kx H H') : P8 cBo H0 N lb kl b ka H' ws ks :=
  ⟨S.sh.kx k, k.lst S.hb, k.lst S.hk, fun i hi => by
    obtain ⟨ts, h, t⟩ := S.kn i hi
    exact ⟨ts, k.lst h, t.k k⟩, S.inj, S.ne, S.fr⟩
theorem Ke.ne1 {H H' : Hp} {p a : Addr} {u : HO} (k : Ke [p] H H') (n : a ≠ p) (h : H a = some u) (nt : ∀ ps, u ≠ .tbl ps) : H' a = some u := k.o a u (fun z => n (List.mem_singleton.mp z)) h nt
section
variable {cBo : Addr} {H0 H : Hp} {N : Nat} {lb kl : Addr} {b ka : Nat → Addr} {ws ks : Nat → List Wd} {i : Nat}
theorem P8.mem (S : P8 cBo H0 N lb kl b ka H ws ks) (hi : i < N) : ka i ∈ lb :: kl :: (List.range N).map ka := List.mem_cons_of_mem _ (List.mem_cons_of_mem _ (List.mem_map.mpr ⟨i, List.mem_range.mpr hi, rfl⟩))
/-- what the law holds stays where another object is changed -/
theorem P8.keep (S : P8 cBo H0 N lb kl b ka H ws ks) {H' : Hp} {p : Addr} {u : HO} {ws' : Nat → List Wd} (k : Ke [p] H H') (hp : H p = some u) (nt : ∀ ys, u ≠ .tup ys) (np : p ∉ lb :: kl :: (List.range N).map ka) (sh : Shelf cBo (lb :: kl :: (List.range N).map ka) H0 H' N b (fun i => ((i : Nat) : Int)) ws') :
    P8 cBo H0 N lb kl b ka H' ws' ks :=
  ⟨sh, Ke.ne1 k (fun e => np (by rw [← e]; exact List.mem_cons_self)) S.hb fun ps z => (by cases z), Ke.ne1 k (fun e => np (by rw [← e]; exact List.mem_cons_of_mem _ List.mem_cons_self)) S.hk fun ps z => (by cases z), fun j hj => by
    obtain ⟨ts, h, t⟩ := S.kn j hj
    exact ⟨ts, Ke.ne1 k (fun e => np (by rw [← e]; exact S.mem hj)) h fun ps z => (by cases z), tat_ke k hp nt t⟩, S.inj, S.ne, S.fr⟩
theorem P8.book (S : P8 cBo H0 N lb kl b ka H ws ks) (hi : i < N) : ∃ (dx kn : Addr) (ts : List Addr), BookAt H cBo (b i) dx kn ((i : Nat) : Int) ts (ws i) ∧
    (∀ (H' : Hp) (ts' : List Addr) (vs : List Wd), Ke [kn] H H' → BookAt H' cBo (b i) dx kn ((i : Nat) : Int) ts' vs → P8 cBo H0 N lb kl b ka H' (up ws i vs) ks) ∧
    (∀ (H' : Hp) (r : Addr) (ts' : List Addr) (vs : List Wd), Ke [b i] H H' → H r = none → BookAt H' cBo (b i) dx r ((i : Nat) : Int) ts' vs → P8 cBo H0 N lb kl b ka H' (up ws i vs) ks) := by
  obtain ⟨dx, kn, ts, B, _, nv, q1, q2⟩ := S.sh.at_ hi
  refine ⟨dx, kn, ts, B, fun H' ts' vs k B' => S.keep k B.kn (fun ys z => by cases z) nv (q1 H' ts' vs k B'), fun H' r ts' vs k nr B' => S.keep k B.ob (fun ys z => by cases z) (fun z => ?_) (q2 H' r ts' vs k nr B')⟩
  have ob := B.ob
  rcases List.mem_cons.mp z with e | z
  · rw [e, S.hb] at ob
    cases ob
  · rcases List.mem_cons.mp z with e | z
    · rw [e, S.hk] at ob
      cases ob
    · obtain ⟨j, hj, e⟩ := List.mem_map.mp z
      obtain ⟨ts, h, _⟩ := S.kn j (List.mem_range.mp hj)
      rw [← e, h] at ob
      cases ob
theorem P8.known (S : P8 cBo H0 N lb kl b ka H ws ks) (hi : i < N) : ∃ ts : List Addr, H (ka i) = some (.lst (ts.map V.ref)) ∧ TAt H ts (ks i) ∧
    ∀ (H' : Hp) (ts2 : List Addr) (vs : List Wd), Ke [ka i] H H' → H' (ka i) = some (.lst (ts2.map V.ref)) → TAt H' ts2 vs → P8 cBo H0 N lb kl b ka H' ws (up ks i vs) := by
  obtain ⟨ts, h, t⟩ := S.kn i hi
  refine ⟨ts, h, t, fun H' ts2 vs k h2 t2 => ⟨S.sh.mut (S.mem hi) h (S.fr i hi) k, Ke.ne1 k (S.ne i hi).1.symm S.hb fun ps z => (by cases z), Ke.ne1 k (S.ne i hi).2.symm S.hk fun ps z => (by cases z), fun j hj => ?_, S.inj, S.ne, S.fr⟩⟩
  by_cases z : j = i
  · subst z
    rw [up_at]
    exact ⟨ts2, h2, t2⟩
  · rw [up_no z]
    obtain ⟨us, g, gt⟩ := S.kn j hj
    exact ⟨us, Ke.ne1 k (fun e => z (S.inj j i hj hi e)) g fun ps z => (by cases z), tat_ke k h (fun ys z => by cases z) gt⟩
theorem P8.knAt (S : P8 cBo H0 N lb kl b ka H ws ks) : KnAt H kl ((List.range N).map ka) ((List.range N).map ks) := by
  refine ⟨by rw [S.hk, List.map_map] <;> rfl, paired_rng fun i hi => S.kn i hi⟩
end
/-- a deed stays where another thing is changed -/
theorem DeedAt.ke {K : PySem.W.Frag} {H H' : Hp} {d p : Addr} {q : Deed} {u : HO} (k : Ke [p] H H') (hp : H p = some u) (nt : ∀ ys, u ≠ .tup ys) (nl : (∀ xs, u ≠ .lst xs) ∨ ∃ g p o a, q = .ans g p o a) (h : DeedAt K H d q) : DeedAt K H' d q := by
  cases q with
  | ans g p' o a => exact Ke.ne1 k (fun e => by
      have h : H d = some (.tup _) := h
      rw [e, hp] at h
      exact nt _ (Option.some.inj h)) h fun ps z => (by cases z)
  | hear g us =>
    obtain ⟨l, h1, ts, h2, h3⟩ := h
    rcases nl with nl | ⟨_, _, _, _, e⟩
    · refine ⟨l, Ke.ne1 k (fun e => ?_) h1 fun ps z => (by cases z), ts, Ke.ne1 k (fun e => ?_) h2 fun ps z => (by cases z), tat_ke k hp nt h3⟩
      · rw [e, hp] at h1
        exact nt _ (Option.some.inj h1)
      · rw [e, hp] at h2
        exact nl _ (Option.some.inj h2)
    · cases e
end CH
end

section
set_option Elab.async false
set_option linter.all false
set_option maxRecDepth 100000
set_option maxHeartbeats 4000000
namespace CH
open PySem PySem.Spec PyProof.Rows L2
open GxR (TabB TabG Tabbed)
section
variable {P : Program} {w : World} {K : PySem.W.Frag} {mg : Str → Option Value} {base : Heap} {c aA cBo : Addr}
abbrev st_law : Stmt := top 47
abbrev nm_law : List Str := ["_law_script", "_law_whole", "_law_many", "_law_books", "_law_known", "_law_hand", "_law_at", "_law_number_here", "_law_deed_here", "_law_told", "_law_due_here", "_law_book", "_law_other", "_law_every"]
theorem sc_law : FnScope nm_law ["_law_script"] (defScope st_law) := C8.fnScope_by (by decide +kernel)
/-- what a deed of the i-th book is -/
def DeedOk (i : Nat) (al : List Wd) : Deed → Prop
  | .ans g p o a => g = ((i : Nat) : Int) ∧ 0 ≤ p ∧ p ≤ 7 ∧ 0 ≤ o ∧ o ≤ 11 ∧ a ∈ ansL
  | .hear _ us => (∀ x ∈ us, x ∈ al) ∧ us.Nodup
def sp_law (K : PySem.W.Frag) : Sp := fun vs H Q _ => ∃ (a : Addr) (ns : List Int), vs = [.ref a] ∧ SqL K H a (ns.map V.int) ∧ ns.length ≤ 63 ∧ (∀ z ∈ ns, Bits z 1100000) ∧ ∀ H' : Hp, Q (.bl true) H'
theorem ok_law (T : Tx K mg aA) (f__law_number : C8.Cal P w K mg base 1 "_law_number" sp_law_number [])
    (f__law_deed : C8.Cal P w K mg base 1 "_law_deed" (sp_law_deed K) []) (f__law_due : C8.Cal P w K mg base 2 "_law_due" (sp_law_due K) []) (f__law_ask : C8.Cal P w K mg base 9 "_law_ask" (sp_law_ask K cBo) []) (f__law_same : C8.Cal P w K mg base 6 "_law_same" (sp_law_same K cBo) [])
    (k_Book : C8.Mak P w K mg base 5 "Book" cBo (sp_Book_init K cBo) []) (m_Book_hear : C8.Met P w K mg base 8 cBo "hear" (sp_hear0 K cBo) []) (m_Book_all_words : C8.Met P w K mg base 1 cBo "all_words" (sp_all_words K cBo) []) (f__law_hear_right : C8.Cal P w K mg base 11 "_law_hear_right" sp_two [])
    {fa : Addr} {A : Around} {outer : List Env} {s : Shared} {H : Hp} {vs : List V} {Q : VK} {E : XK} (hr : Room 12 (A.deeper (envOfC "law" (defScope st_law) s.heap.objs.size fa (.ref c)))) (h : sp_law K vs H Q E) :
    ∃ t, PSs (cxOf CX0 P w K mg base nm_law "law" (defScope st_law) fa (.ref c) A outer s H E).nox (defBody st_law) t ∧ t { nx := fun _ H' => Q .non H', rt := Q } (L2.start nm_law vs) H := by
  obtain ⟨a, ns, rfl, ha, h63, hb, q⟩ := h
  have nd := sc_law.nd
  have hu := hu_of hr
  refine ⟨_, (pss_cons (ps_set (i := 1) nd rfl (Or.inl rfl) (pe_callB call_abs (by rfl) T.z_abs (by decide +kernel) (pa_cons (pe_callB (cr_sum rfl) (by rfl) T.z_sum (by decide +kernel) (pa_cons (pe_slice sl_list (pv 0) po_none (po_some pe_int)) pa_nil)) pa_nil)))
      (pss_cons (ps_set (i := 2) nd rfl (Or.inl rfl) (pe_op op_add pe_int (pe_op op_mod (pv 1) pe_int)))
      (pss_cons (ps_par (i := 3) (j := 4) (by rfl) nd rfl rfl (by decide) rfl rfl (pa_cons (pe_lc (own := [("_law_hand", 5)]) (g := gName 5) (tt := tYes) (by rfl) nd (pi_range1 (by rfl) T.z_range (pa_cons (pv 2) pa_nil)) (blkOk_by (own := [("_law_hand", 5)]) (N := nm_law) (sc := defScope st_law) (by decide +kernel)) (fun _ _ _ _ _ => pg_name (i := 5) nd rfl (Or.inl rfl)) (fun _ _ _ _ _ => pts_nil) (fun _ _ _ _ _ => (C8.pe_mk k_Book hr (by first | decide | exact hkp) (by rfl) (pa_cons (pv 5) pa_nil)))) (pa_cons (pe_lc (own := [("_law_hand", 5)]) (g := gName 5) (tt := tYes) (by rfl) nd (pi_range1 (by rfl) T.z_range (pa_cons (pv 2) pa_nil)) (blkOk_by (own := [("_law_hand", 5)]) (N := nm_law) (sc := defScope st_law) (by decide +kernel)) (fun _ _ _ _ _ => pg_name (i := 5) nd rfl (Or.inl rfl)) (fun _ _ _ _ _ => pts_nil) (fun _ _ _ _ _ => (pe_lst pa_nil))) pa_nil)) (by rfl))
      (pss_cons (ps_for PassesOwn.never rfl (pi_range1 (by rfl) T.z_range (pa_cons (pe_op op_mul pe_int (pe_callB call_len_seq (by rfl) T.z_len PySem.boot_len (pa_cons (pe_slice sl_list (pv 0) po_none (po_some pe_int)) pa_nil))) pa_nil)) (pg_name (i := 6) nd rfl (Or.inl rfl)) (pss_cons (ps_set (i := 7) nd rfl (Or.inl rfl) (pe_op op_fdiv (pe_callB call_abs (by rfl) T.z_abs (by decide +kernel) (pa_cons (C8.pe_c f__law_number hr (by first | decide | exact hkp) (by rfl) (pa_cons (pe_op op_add (pe_ix ix_list (pv 0) (pe_op op_fdiv (pv 6) pe_int) (fun _ _ => rfl)) (pe_op op_mod (pv 6) pe_int)) (pa_cons (pv 6) (pa_cons (pv 1) pa_nil)))) pa_nil)) pe_int))
      (pss_cons (ps_set (i := 5) nd rfl (Or.inl rfl) (pe_op op_mod (pe_op op_fdiv (pv 7) pe_int) (pv 2)))
      (pss_cons (ps_set (i := 8) nd rfl (Or.inl rfl) (C8.pe_c f__law_deed hr (by first | decide | exact hkp) (by rfl) (pa_cons (pv 7) (pa_cons (pv 5) (pa_cons (pv 4) pa_nil)))))
      (pss_cons (ps_par (i := 9) (j := 10) (by rfl) nd rfl rfl (by decide) rfl rfl (pa_cons (C8.pe_c f__law_ask hr (by first | decide | exact hkp) (by rfl) (pa_cons (pe_ix ix_list (pv 3) (pv 5) (fun _ _ => rfl)) (pa_cons (pv 8) pa_nil))) (pa_cons (C8.pe_c f__law_due hr (by first | decide | exact hkp) (by rfl) (pa_cons (pe_ix ix_list (pv 4) (pv 5) (fun _ _ => rfl)) (pa_cons (pv 8) pa_nil))) pa_nil)) (by rfl))
      (pss_one (ps_if (PW.pt (pw_or (pt_cmpR op_ne (pv 9) (pv 10) (nomark _)) (pw_or (pt_val (pe_callB call_isi (by rfl) T.z_isinstance (by decide +kernel) (pa_cons (pv 9) (pa_cons (pe_bltn (v := .ty "bool") (by rfl) T.z_bool (by decide +kernel) rfl) pa_nil)))) (pw_or1 (pt_not (pt_val (C8.pe_c f__law_same hr (by first | decide | exact hkp) (by rfl) (pa_cons (pe_ix ix_list (pv 3) (pv 5) (fun _ _ => rfl)) (pa_cons (pe_ix ix_list (pv 4) (pv 5) (fun _ _ => rfl)) (pa_cons (pe_op op_fdiv (pv 7) pe_int) pa_nil)))))))))) (pss_one (ps_ret pe_bl)) pss_nil)))))))
      (pss_cons (ps_for PassesOwn.never rfl (pi_enum (by rfl) T.z_enumerate (pa_cons (pv 3) pa_nil)) (pg_tup (by rfl) (pgs_cons (pg_name (i := 5) nd rfl (Or.inl rfl)) (pgs_cons (pg_name (i := 11) nd rfl (Or.inl rfl)) pgs_nil))) (pss_one (ps_for PassesOwn.never rfl (pi_list (pe_ifExp (pt_cmpR op_eq (pe_op op_mod (pv 5) pe_int) pe_int (nomark _)) (pv 3) (pe_revL (pv 3)))) (pg_name (i := 12) nd rfl (Or.inl rfl)) (pss_one (ps_expr (C8.pe_mt m_Book_hear hr (by first | decide | exact hkp) (pv 11) (pa_cons (C8.pe_mt0 m_Book_all_words hr (by first | decide | exact hkp) (pv 12)) pa_nil)))))))
      (pss_cons (ps_set (i := 13) nd rfl (Or.inl rfl) (C8.pe_mt0 m_Book_all_words hr (by first | decide | exact hkp) (pe_ix ix_list (pv 3) pe_int (fun _ _ => rfl))))
      (pss_cons (ps_for PassesOwn.never rfl (pi_list (pv 3)) (pg_name (i := 11) nd rfl (Or.inl rfl)) (pss_one (ps_for PassesOwn.never rfl (pi_list (pv 3)) (pg_name (i := 12) nd rfl (Or.inl rfl)) (pss_one (ps_if (PW.pt (pw_or (pt_cmpR op_ne (C8.pe_mt m_Book_hear hr (by first | decide | exact hkp) (pv 11) (pa_cons (C8.pe_mt0 m_Book_all_words hr (by first | decide | exact hkp) (pv 12)) pa_nil)) pe_int (nomark _)) (pw_or1 (pt_cmpR (op_neD hr.units) (C8.pe_mt0 m_Book_all_words hr (by first | decide | exact hkp) (pv 11)) (pv 13) (nomark _))))) (pss_one (ps_ret pe_bl)) pss_nil)))))
      (pss_one (ps_ret (pe_c0 f__law_hear_right hr (by first | decide | exact hkp) (by rfl))))))))))), ?_⟩
  refine ⟨_, rfl, 63, rfl, a, _, rfl, ha, fun p np => ?_⟩
  rw [cut63 h63]
  have k1 : Kx H (upd H p (.lst (ns.map V.int))) := Kx.new np
  have hp : (upd H p (.lst (ns.map V.int))) p = some (.lst (ns.map V.int)) := upd_same
  generalize upd H p (.lst (ns.map V.int)) = H1 at k1 hp ⊢
  refine ⟨p, ns, rfl, sq_of hp, _, rfl, ?_⟩
  have w0 := abs_nn ns.sum
  dsimp (config := { proj := false, failIfUnchanged := false }) only
  generalize (if ns.sum < 0 then -ns.sum else ns.sum) = wh at w0 ⊢
  refine ⟨_, rfl, _, _, rfl, rfl, (by show (0 : Int) < 3; decide), _, _, rfl, rfl, ?_⟩
  obtain ⟨N, eN, N2, N4⟩ : ∃ N : Nat, ((N : Nat) : Int) = 2 + wh % 3 ∧ 2 ≤ N ∧ N ≤ 4 := by
    have m0 := Int.emod_nonneg wh (show (3 : Int) ≠ 0 by decide)
    have m3 := Int.emod_lt_of_pos wh (show (0 : Int) < 3 by decide)
    exact ⟨(2 + wh % 3).toNat, by omega, by omega, by omega⟩
  dsimp (config := { proj := false, failIfUnchanged := false }) only
  rw [← eN]
  have two62 : (2 : Int) ^ 62 = 4611686018427387904 := by decide
  have bN : -(2 ^ 62) ≤ ((N : Nat) : Int) ∧ ((N : Nat) : Int) < 2 ^ 62 := by rw [two62]; omega
  clear eN hp np
  -- the books
  refine ⟨_, rfl, ((N : Nat) : Int), rfl, bN.1, bN.2, fun lb nlb => ?_⟩
  refine lc_range (lo := 0) (n := N) (fun j H3 => ∃ b : Nat → Addr, Shelf cBo [lb] H1 H3 j b (fun i => ((i : Nat) : Int)) (fun _ => []) ∧ H3 lb = some (.lst (refsN j b)))
    ⟨fun _ => lb, Shelf.none1 (Kx.new nlb) (fun a ha => by rw [List.mem_singleton.mp ha, upd_same]; exact fun z => nomatch z), upd_same⟩ ?_ ?_
  · rintro j H3 hj ⟨b, S, hD⟩
    refine ⟨rfl, yesT ?_⟩
    refine ⟨_, rfl, fun x dx nx ndx nxx => ?_⟩
    refine ⟨H3, x, dx, 0 + ((j : Nat) : Int), rfl, by omega, by omega, rfl, nx, ndx, nxx, fun G kn g nk nkx B => ⟨rfl, ?_⟩⟩
    rw [Int.zero_add] at B
    have hD' := g.lst hD
    have S' := Shelf.new S nx g nk B
    refine ⟨_, hD', lt80 (by rw [List.length_map, List.length_range]; omega), up b j x, ?_, ?_⟩
    · refine ((S'.mut (List.mem_singleton.mpr rfl) hD' nlb ((Ke.refl [lb] G).mut (List.mem_singleton.mpr rfl))).congr (fun _ _ => rfl) (fun i hi => ?_) fun i hi => ?_)
      · by_cases z : i = j
        · rw [z, up_at]
        · rw [up_no z]
      · by_cases z : i = j
        · rw [z, up_at]
        · rw [up_no z]
    · rw [upd_same]
      unfold refsN
      rw [List.range_succ, List.map_append]
      congr 2
      have e1 : List.map (fun i => V.ref (b i)) (List.range j) = List.map (fun i => V.ref (up b j x i)) (List.range j) := List.map_congr_left fun i hi => by rw [up_no (by have := List.mem_range.mp hi; omega)]
      rw [e1]
      show _ = _ ++ [V.ref (up b j x j)]
      rw [up_at]
  rintro H2 ⟨b, S, hlb⟩
  refine ⟨_, rfl, ((N : Nat) : Int), rfl, bN.1, bN.2, fun kl nkl => ?_⟩
  refine lc_range (lo := 0) (n := N) (fun j H3 => Kx H2 H3 ∧ ∃ ka : Nat → Addr, H3 kl = some (.lst (refsN j ka)) ∧ (∀ i, i < j → H2 (ka i) = none ∧ H3 (ka i) = some (.lst []) ∧ ka i ≠ kl) ∧ ∀ i l, i < j → l < j → ka i = ka l → i = l)
    ⟨Kx.new nkl, fun _ => kl, upd_same, fun i hi => absurd hi (Nat.not_lt_zero i), fun i l hi => absurd hi (Nat.not_lt_zero i)⟩ ?_ ?_
  · rintro j H3 hj ⟨k3, ka, hD, hka, inj⟩
    refine ⟨rfl, yesT ?_⟩
    refine ⟨Nat.zero_le _, fun x nx => ?_⟩
    have kx := Kx.new (u := .lst []) nx
    have hD' := kx.lst hD
    have nkx : x ≠ kl := fun z => by rw [z, hD] at nx; cases nx
    have no : ∀ i, i < j → ka i ≠ x := fun i hi z => by have := (hka i hi).2.1; rw [z, nx] at this; cases this
    refine ⟨_, hD', lt80 (by rw [List.length_map, List.length_range]; omega), (k3.trans kx).mut nkl, up ka j x, ?_, fun i hi => ?_, fun i l hi hl e => ?_⟩
    · rw [upd_same]
      unfold refsN
      rw [List.range_succ, List.map_append]
      congr 2
      have e1 : List.map (fun i => V.ref (ka i)) (List.range j) = List.map (fun i => V.ref (up ka j x i)) (List.range j) := List.map_congr_left fun i hi => by rw [up_no (by have := List.mem_range.mp hi; omega)]
      rw [e1]
      show _ = _ ++ [V.ref (up ka j x j)]
      rw [up_at]
    · by_cases z : i = j
      · rw [z, up_at]
        exact ⟨k3.f x nx, by rw [upd_ne nkx, upd_same], nkx⟩
      · rw [up_no z]
        obtain ⟨a1, a2, a3⟩ := hka i (by omega)
        exact ⟨a1, by rw [upd_ne a3]; exact kx.lst a2, a3⟩
    · by_cases z : i = j
      · by_cases y : l = j
        · rw [z, y]
        · rw [z, up_at, up_no y] at e
          exact absurd e.symm (no l (by omega))
      · by_cases y : l = j
        · rw [y, up_at, up_no z] at e
          exact absurd e (no i (by omega))
        · rw [up_no z, up_no y] at e
          exact inj i l (by omega) (by omega) e
  rintro H3 ⟨k3, ka, hkl, hka, inj⟩
  have hlb3 := k3.lst hlb
  have nkb : ∀ i, i < N → ka i ≠ lb := fun i hi z => by have := (hka i hi).1; rw [z, hlb] at this; cases this
  have P0 : P8 cBo H1 N lb kl b ka H3 (fun _ => []) (fun _ => []) := by
    refine ⟨S.clear k3 fun y hy => ?_, hlb3, hkl, fun i hi => ⟨[], (hka i hi).2.1, .nil⟩, inj, fun i hi => ⟨nkb i hi, (hka i hi).2.2⟩, fun i hi => S.k.f _ (hka i hi).1⟩
    rcases List.mem_cons.mp hy with rfl | hy
    · exact ⟨.inl (List.mem_singleton.mpr rfl), by rw [hlb3]; exact fun z => nomatch z⟩
    · rcases List.mem_cons.mp hy with rfl | hy
      · exact ⟨.inr nkl, by rw [hkl]; exact fun z => nomatch z⟩
      · obtain ⟨i, hi, rfl⟩ := List.mem_map.mp hy
        obtain ⟨a1, a2, _⟩ := hka i (List.mem_range.mp hi)
        exact ⟨.inr a1, by rw [a2]; exact fun z => nomatch z⟩
  clear S hlb hka k3 hkl hlb3 nkb inj nkl nlb
  refine ⟨_, _, rfl, ?_⟩
  have ha1 := k1.l ha
  dsimp only
  show tSeq (tFor _ _ _) _ _ _ _
  refine seq_cut (fun σ' Z => ∃ (v5 v6 v7 v8 v9 v10 : Option V) (t : Nat) (ws ks : Nat → List Wd) (al : List Wd), σ' = [some (.ref a), some (.int wh), some (.int ((N : Nat) : Int)), some (.ref lb), some (.ref kl), v5, v6, v7, v8, v9, v10, none, none, none] ∧ P8 cBo H1 N lb kl b ka Z ws ks ∧ (∀ i, i < N → Once (ks i) (ws i)) ∧ Kno N t ks al ∧ t ≤ 40) (fun D hD => ?_) ?_
  · refine ⟨_, rfl, 20, rfl, a, _, rfl, P0.sh.k.l ha1, fun p np => ?_⟩
    have eL : cutV (ns.map V.int) none (some 20) = (ns.take 20).map V.int := by rw [show (some (20 : Int)) = some ((20 : Nat) : Int) from rfl, cutV_take, List.map_take]
    rw [eL]
    have kp := Kx.new (u := .lst ((ns.take 20).map V.int)) np
    refine ⟨p, _, rfl, .inl (sq_of upd_same), _, _, rfl, rfl, .inl ⟨by decide, by decide⟩, ?_⟩
    have S0 := P0.kx kp
    clear P0
    generalize upd H3 p (.lst ((ns.take 20).map V.int)) = H4 at S0 ⊢
    rw [List.length_map]
    have hL20 : (ns.take 20).length ≤ 20 := by rw [List.length_take]; omega
    have hLn : (ns.take 20).length ≤ ns.length := by rw [List.length_take]; omega
    generalize (ns.take 20).length = L at hL20 hLn ⊢
    rw [show (fun i j => V.int (i * j)) 2 ((L : Nat) : Int) = V.int ((2 * L : Nat) : Int) from by show V.int (2 * (L : Int)) = _; congr 1]
    refine ⟨_, rfl, by rw [two62]; omega, by rw [two62]; omega, for_range (lo := 0) (n := 2 * L) (fun t σ' Z => ∃ (v5 v6 v7 v8 v9 v10 : Option V) (ws ks : Nat → List Wd) (al : List Wd), σ' = [some (.ref a), some (.int wh), some (.int ((N : Nat) : Int)), some (.ref lb), some (.ref kl), v5, v6, v7, v8, v9, v10, none, none, none] ∧ P8 cBo H1 N lb kl b ka Z ws ks ∧ (∀ i, i < N → Once (ks i) (ws i)) ∧ Kno N t ks al)
      ⟨none, none, none, none, none, none, fun _ => [], fun _ => [], [], rfl, S0, fun i hi => ⟨fun x => Iff.rfl, List.Pairwise.nil⟩, Kno.zero fun _ _ => rfl⟩ ?_ ?_⟩
    · rintro t σ Z ht ⟨v5, v6, v7, v8, v9, v10, ws, ks, al, rfl, S, ho, kno⟩
      have haz := S.sh.k.l ha1
      have t40 : t < 40 := by omega
      have q0 : (0 : Int) ≤ (0 + (t : Int)) / 2 := Int.ediv_nonneg (by omega) (by decide)
      have q1 : (0 + (t : Int)) / 2 < ((ns.map V.int).length : Int) := by rw [List.length_map]; omega
      obtain ⟨cv, hcv, hcm⟩ := at_small (xs := ns.map V.int) q0 q1
      obtain ⟨ce, hce, rfl⟩ := List.mem_map.mp hcm
      have m0 : 0 ≤ (0 + (t : Int)) % 2 := Int.emod_nonneg _ (by decide)
      have m2 : (0 + (t : Int)) % 2 < 2 := Int.emod_lt_of_pos _ (by decide)
      have hbc : Bits (ce + (0 + (t : Int)) % 2) 2000000 := (hb ce hce).add (Bits.of (n := 10) m0 (by omega)) (by decide) (by decide)
      refine ⟨_, rfl, _, rfl, _, _, rfl, rfl, ⟨by decide, by decide⟩, a, _, _, .int ce, rfl, rfl, haz, hcv, ?_⟩
      refine ⟨_, rfl, _, _, rfl, rfl, (by show (0 : Int) < 2; decide), _, _, rfl, rfl, _, rfl, _, rfl, _, _, _, rfl, hbc, by omega, by omega, fun rr => ⟨_, rfl, _, _, rfl, rfl, ⟨by decide, by decide⟩, ?_⟩⟩
      have n0 := Int.ediv_nonneg (abs_nn rr) (show (0 : Int) ≤ 3 by decide)
      dsimp (config := { proj := false, failIfUnchanged := false }) only
      generalize (if rr < 0 then -rr else rr) / 3 = num at n0 ⊢
      refine ⟨_, rfl, _, _, rfl, rfl, ⟨by decide, by decide⟩, _, rfl, _, _, rfl, rfl, (by show (0 : Int) < ((N : Nat) : Int); omega), ?_⟩
      obtain ⟨i, ei, hi⟩ : ∃ i : Nat, ((i : Nat) : Int) = num / 8 % ((N : Nat) : Int) ∧ i < N := by
        have a1 := Int.emod_nonneg (num / 8) (show ((N : Nat) : Int) ≠ 0 by omega)
        have a2 := Int.emod_lt_of_pos (num / 8) (show (0 : Int) < ((N : Nat) : Int) by omega)
        exact ⟨(num / 8 % ((N : Nat) : Int)).toNat, by omega, by omega⟩
      dsimp (config := { proj := false, failIfUnchanged := false }) only
      rw [← ei]
      dsimp only [gName]
      show tSeq (tAsg _ _) _ _ _ _
      refine seq_cut (fun σ' Z1 => ∃ (d : Addr) (q : Deed), σ' = [some (.ref a), some (.int wh), some (.int ((N : Nat) : Int)), some (.ref lb), some (.ref kl), some (.int ((i : Nat) : Int)), some (.int (0 + (t : Int))), some (.int num), some (.ref d), v9, v10, none, none, none] ∧ Kx Z Z1 ∧ DeedAt K Z1 d q ∧ DeedOk i al q) (fun D2 hD2 => ?_) ?_
      · refine ⟨_, rfl, _, rfl, _, rfl, num, ((i : Nat) : Int), kl, (List.range N).map ka, (List.range N).map ks, rfl, n0, S.knAt, by rw [List.length_map, List.length_range]; omega, by rw [List.length_map, List.length_range]; omega, fun Z1 d p o an z1 nd1 hp ho1 han hd => ?_, fun Z1 d j m kj z1 nd1 hj hd => ?_⟩
        · exact hD2 _ _ ⟨d, _, rfl, z1, hd, rfl, hp.1, by omega, ho1.1, by omega, han⟩
        · refine hD2 _ _ ⟨d, _, rfl, z1, hd, ?_⟩
          rw [List.getElem?_map] at hj
          obtain ⟨l, hl, rfl⟩ := Option.map_eq_some_iff.mp hj
          have hlN := List.mem_range.mp (List.mem_of_getElem? hl)
          exact ⟨fun x hx => kno.sub l hlN x (List.mem_of_mem_take hx), (List.take_sublist m (ks l)).nodup (kno.nd l hlN)⟩
      rintro _ Z1 ⟨d, q, rfl, z1, hd, hq⟩
      have S1 := S.kx z1
      show tSeq (tPar _ _ _) _ _ _ _
      refine seq_cut (fun σ' Z2 => ∃ (r : Int) (ws' ks' : Nat → List Wd) (al' : List Wd), σ' = [some (.ref a), some (.int wh), some (.int ((N : Nat) : Int)), some (.ref lb), some (.ref kl), some (.int ((i : Nat) : Int)), some (.int (0 + (t : Int))), some (.int num), some (.ref d), some (.int r), some (.int r), none, none, none] ∧ P8 cBo H1 N lb kl b ka Z2 ws' ks' ∧ (∀ i, i < N → Once (ks' i) (ws' i)) ∧ Kno N (t + 1) ks' al') (fun D2 hD2 => ?_) ?_
      · obtain ⟨dx, kn, ts, B, q1, q2⟩ := S1.book hi
        refine ⟨_, rfl, _, rfl, lb, _, _, .ref (b i), rfl, rfl, sq_of S1.hb, refsN_at hi, _, rfl, b i, dx, kn, d, ((i : Nat) : Int), ts, ws i, q, rfl, B, hd, ?_⟩
        have lw := kno.wlen hi (ho i hi)
        have lk := kno.len hi
        cases q with
        | ans g p o an =>
          obtain ⟨rfl, p0, p7, o0, o11, han⟩ := hq
          obtain ⟨m', hm', top'⟩ := max_ex (ks i)
          have nx := kno.next hi (ho i hi) hm' top'
          have mt : m' ≤ t := by
            rcases List.mem_cons.mp hm' with z | z
            · omega
            · obtain ⟨x, hx, rfl⟩ := List.mem_map.mp z
              exact (kno.ok x (kno.sub i hi x hx)).2
          refine ⟨p0, p7, o0, o11, han, by rw [nx]; omega, by omega, fun Z3 tt k3 B3 => ?_⟩
          rw [nx] at B3 ⊢
          have S3 := q1 Z3 _ _ k3 B3
          have hd3 := DeedAt.ke k3 B.kn (fun ys z => by cases z) (.inr ⟨_, _, _, _, rfl⟩) hd
          obtain ⟨us, hka, hus, q3⟩ := S3.known hi
          refine ⟨_, rfl, _, rfl, kl, _, _, .ref (ka i), rfl, rfl, sq_of S3.hk, refsN_at hi, _, rfl, ka i, d, us, ks i, .ans ((i : Nat) : Int) p o an, rfl, hka, hus, kno.okk hi, hd3, by omega, fun Z4 t4 m k4 hk4 ht4 hm top => ?_⟩
          have em : m = m' := Int.le_antisymm (top' m hm) (top m' hm')
          subst em
          refine ⟨_, _, rfl, hD2 _ _ ⟨m + 1, _, _, _, rfl, q3 Z4 _ _ k4 hk4 ht4, fun j hj => ?_, kno.ans (by omega) N4 hi hm top p0 p7 o0 o11 han⟩⟩
          by_cases z : j = i
          · subst z
            rw [up_at, up_at]
            exact kno.snoc hj (ho j hj) top
          · rw [up_no z, up_no z]
            exact ho j hj
        | hear g us =>
          obtain ⟨hs, nds⟩ := hq
          obtain ⟨g2, al2, ds, hds, l80, hmore, elen⟩ := kno.heard (by omega) hi (ho i hi) hs nds
          refine ⟨kno.wgood (by omega) hi (ho i hi), g2, al2, ds, hds, l80, fun Z3 r3 ts3 k3 nr3 B3 => ?_⟩
          rw [elen]
          have S3 := q2 Z3 r3 ts3 _ k3 nr3 B3
          have hd3 := DeedAt.ke k3 B.ob (fun ys z => by cases z) (.inl fun xs z => by cases z) hd
          obtain ⟨vs3, hka, hvs, q3⟩ := S3.known hi
          have u80 := g2.1
          refine ⟨_, rfl, _, rfl, kl, _, _, .ref (ka i), rfl, rfl, sq_of S3.hk, refsN_at hi, _, rfl, ka i, d, vs3, ks i, .hear g us, rfl, hka, hvs, kno.okk hi, hd3, by omega, g2.2, by omega, fun Z4 t4 k4 hk4 ht4 => ?_⟩
          refine ⟨_, _, rfl, hD2 _ _ ⟨_, _, _, _, rfl, q3 Z4 _ _ k4 hk4 ht4, fun j hj => ?_, kno.hear hi hs nds⟩⟩
          by_cases z : j = i
          · subst z
            rw [up_at, up_at]
            exact hmore
          · rw [up_no z, up_no z]
            exact ho j hj
      rintro _ Z2 ⟨r, ws', ks', al', rfl, S2, ho2, kno2⟩
      refine ⟨_, rfl, _, rfl, rfl, _, rfl, ?_⟩
      rw [decide_eq_true rfl]
      refine iteF ?_
      refine ⟨_, rfl, .int r, .ty "bool", .type "int", .type "bool", false, rfl, .ty _, .base (.int r), kit_ty (by decide +kernel), false, rfl, iteF ?_⟩
      obtain ⟨dx, kn, ts, B, _, _⟩ := S2.book hi
      obtain ⟨us, hka, hus, _⟩ := S2.known hi
      refine ⟨_, rfl, _, rfl, lb, _, _, .ref (b i), rfl, rfl, sq_of S2.hb, refsN_at hi, ?_⟩
      refine ⟨_, rfl, _, rfl, kl, _, _, .ref (ka i), rfl, rfl, sq_of S2.hk, refsN_at hi, ?_⟩
      refine ⟨_, rfl, _, _, rfl, rfl, ⟨by decide, by decide⟩, b i, dx, kn, ka i, ((i : Nat) : Int), num / 64, ts, us, ws' i, ks' i, rfl, B, hka, hus, ho2 i hi, kno2.df hi, kno2.good (by omega) hi, Int.ediv_nonneg n0 (by decide), fun Z3 z3 => ?_⟩
      exact ⟨true, rfl, iteF ⟨_, _, _, _, _, _, ws', ks', al', rfl, S2.kx z3, ho2, kno2⟩⟩
    · rintro σ Z ⟨v5, v6, v7, v8, v9, v10, ws, ks, al, rfl, S, ho, kno⟩
      exact hD _ _ ⟨v5, v6, v7, v8, v9, v10, 2 * L, ws, ks, al, rfl, S, ho, kno, by omega⟩
  rintro _ Z0 ⟨v5, v6, v7, v8, v9, v10, t, ws, ks, al, rfl, S, ho, kno, t40⟩
  obtain ⟨U, uni⟩ := kno.uni (by omega) ho
  clear kno ho
  show tSeq (tFor _ _ _) _ _ _ _
  refine seq_cut (fun σ' Z => ∃ (v5 v11 v12 : Option V) (ws : Nat → List Wd), σ' = [some (.ref a), some (.int wh), some (.int ((N : Nat) : Int)), some (.ref lb), some (.ref kl), v5, v6, v7, v8, v9, v10, v11, v12, none] ∧ P8 cBo H1 N lb kl b ka Z ws ks ∧ Uni N ws U ∧ ∀ j, j < N → ws j = U) (fun D hD => ?_) ?_
  · refine ⟨_, rfl, lb, _, rfl, sq_of S.hb, for_enumL (K := K) (a := lb) (xs := refsN N b) (fun i σ' Z => ∃ (v5 v11 v12 : Option V) (ws : Nat → List Wd), σ' = [some (.ref a), some (.int wh), some (.int ((N : Nat) : Int)), some (.ref lb), some (.ref kl), v5, v6, v7, v8, v9, v10, v11, v12, none] ∧ P8 cBo H1 N lb kl b ka Z ws ks ∧ Uni N ws U ∧ ∀ j, j < i → ws j = U)
      ⟨_, _, _, ws, rfl, S, uni, fun j hj => absurd hj (Nat.not_lt_zero j)⟩ (fun i σ Z ⟨_, _, _, _, _, S, _⟩ => sq_of S.hb) ?_ ?_⟩
    · clear S uni
      rintro i x T σ Z hx ⟨v5, v11, v12, ws, rfl, S, uni, done⟩ nT
      obtain ⟨i', hi', rfl⟩ : ∃ q, (List.range N)[i]? = some q ∧ V.ref (b q) = x := by
        unfold refsN at hx
        rw [List.getElem?_map] at hx
        exact Option.map_eq_some_iff.mp hx
      obtain ⟨hi, rfl⟩ : i < N ∧ i' = i := by
        obtain ⟨l1, l2⟩ := List.getElem?_eq_some_iff.mp hi'
        rw [List.length_range] at l1
        rw [List.getElem_range] at l2
        exact ⟨l1, l2.symm⟩
      have g2 : Kx Z (upd Z T (.tup [.int (i' : Nat), .ref (b i')])) := Kx.new nT
      have hT : (upd Z T (.tup [.int (i' : Nat), .ref (b i')])) T = some (.tup [.int (i' : Nat), .ref (b i')]) := upd_same
      generalize upd Z T (.tup [.int (i' : Nat), .ref (b i')]) = G2 at g2 hT ⊢
      refine ⟨T, _, rfl, st_of hT, rfl, _, _, rfl, _, _, rfl, rfl, ?_⟩
      have S2 := S.kx g2
      clear S
      show tFor _ _ _ _ _ _
      show tIf _ _ _ _ _ _
      refine te_cut (fun v Z1 => ∃ (la : Addr) (f : Nat → Nat), v = .ref la ∧ Kx G2 Z1 ∧ Z1 la = some (.lst ((List.range N).map fun q => V.ref (b (f q)))) ∧ (∀ q, q < N → f q < N) ∧ ∀ j, j < N → ∃ q, q < N ∧ f q = j) (fun Q' hQ' => ?_) ?_
      · refine ⟨_, rfl, _, _, rfl, rfl, (by show (0 : Int) < 2; decide), rfl, _, rfl, ?_⟩
        refine iteB (fun _ => ?_) (fun _ => ?_)
        · exact ⟨_, rfl, hQ' _ _ ⟨lb, id, rfl, Kx.refl G2, S2.hb, fun q h => h, fun j h => ⟨j, h, rfl⟩⟩⟩
        · refine ⟨_, rfl, lb, _, rfl, sq_of S2.hb, fun la nla => ?_⟩
          refine hQ' _ _ ⟨la, fun q => N - 1 - q, rfl, Kx.new nla, ?_, fun q h => (by show N - 1 - q < N; omega), fun j h => ⟨N - 1 - j, by omega, (by show N - 1 - (N - 1 - j) = j; omega)⟩⟩
          rw [upd_same]
          congr 2
          refine List.ext_getElem (by simp) fun q h1 h2 => ?_
          rw [List.getElem_reverse, List.getElem_map, List.getElem_map, List.getElem_range, List.getElem_range, List.length_map, List.length_range]
      rintro _ Z1 ⟨la, f, rfl, z1, hla, fN, fcov⟩
      have S3 := S2.kx z1
      clear S2
      refine ⟨la, rfl, ⟨_, sq_of hla⟩, for_list (K := K) (a := la) (xs := (List.range N).map fun q => V.ref (b (f q))) (fun q σ' Z => ∃ (v12 : Option V) (ws' : Nat → List Wd), σ' = [some (.ref a), some (.int wh), some (.int ((N : Nat) : Int)), some (.ref lb), some (.ref kl), some (.int ((i' : Nat) : Int)), v6, v7, v8, v9, v10, some (.ref (b i')), v12, none] ∧ P8 cBo H1 N lb kl b ka Z ws' ks ∧ Uni N ws' U ∧ (∀ j, j < N → j ≠ i' → ws' j = ws j) ∧ (∀ x ∈ ws i', x ∈ ws' i') ∧ (∀ q', q' < q → ∀ x ∈ ws (f q'), x ∈ ws' i') ∧ Z la = some (.lst ((List.range N).map fun q => V.ref (b (f q)))))
        ⟨_, ws, rfl, S3, uni, fun _ _ _ => rfl, fun _ h => h, fun q h => absurd h (Nat.not_lt_zero q), hla⟩ (fun q σ Z _ ⟨_, _, _, _, _, _, _, _, h⟩ => sq_of h) ?_ ?_⟩
      · rintro q y σ Z2 hq ⟨v12, ws', rfl, S4, uni4, oth, own4, got, hla4⟩
        obtain ⟨q', hq', rfl⟩ : ∃ u, (List.range N)[q]? = some u ∧ V.ref (b (f u)) = y := by
          rw [List.getElem?_map] at hq
          exact Option.map_eq_some_iff.mp hq
        obtain ⟨hqN, rfl⟩ : q < N ∧ q' = q := by
          obtain ⟨l1, l2⟩ := List.getElem?_eq_some_iff.mp hq'
          rw [List.length_range] at l1
          rw [List.getElem_range] at l2
          exact ⟨l1, l2.symm⟩
        have hj := fN q' hqN
        obtain ⟨A2, ds, hds, l80, uni5, in1, in2⟩ := uni4.hear hi hj
        obtain ⟨dx, kn, ts, B, _, _⟩ := S4.book hi
        obtain ⟨dy, km, us, C, _, _⟩ := S4.book hj
        refine ⟨_, rfl, b i', dx, _, rfl, B.ob, rfl, _, rfl, b (f q'), dy, _, rfl, C.ob, rfl, b (f q'), dy, km, _, us, ws' (f q'), rfl, C, fun Z3 r3 z3 nr3 hr3 => ?_⟩
        have S5 := S4.kx z3
        obtain ⟨dx5, kn5, ts5, B5, _, q2⟩ := S5.book hi
        refine ⟨b i', dx5, kn5, r3, _, ts5, ws' i', ws' (f q'), ds, rfl, B5, ⟨us, sq_of hr3, (C.ws.k z3).w⟩, uni4.good hi, uni4.good hj, A2, hds, l80, fun Z4 r4 ts4 z4 nr4 B4 => ?_⟩
        refine ⟨_, up ws' i' ds, rfl, q2 Z4 r4 ts4 _ z4 nr4 B4, uni5, fun j hjN ne => by rw [up_no ne]; exact oth j hjN ne, fun x hx => by rw [up_at]; exact in1 x (own4 x hx), fun q2' h2 x hx => ?_, Ke.ne1 z4 (fun e => ?_) (z3.lst hla4) fun ps z => (by cases z)⟩
        · rw [up_at]
          by_cases e : q2' = q'
          · subst e
            by_cases e2 : f q2' = i'
            · exact in1 x (own4 x (e2 ▸ hx))
            · exact in2 x (by rw [oth _ hj e2]; exact hx)
          · exact in1 x (got q2' (by omega) x hx)
        · have := B5.ob
          rw [← e, z3.lst hla4] at this
          cases this
      · rintro σ Z2 ⟨v12, ws', rfl, S4, uni4, oth, own4, got, hla4⟩
        rw [List.length_map, List.length_range] at got
        refine ⟨_, _, _, ws', rfl, S4, uni4, fun j hj => ?_⟩
        by_cases e : j = i'
        · subst e
          refine uni4.full hi fun x hx => ?_
          obtain ⟨l, hl, hx⟩ := uni.cov x hx
          obtain ⟨q, hq, rfl⟩ := fcov l hl
          exact got q hq x hx
        · rw [oth j (by omega) e]
          exact done j (by omega)
    · rintro σ Z ⟨v5, v11, v12, ws, rfl, S, uni, done⟩
      rw [show (refsN N b).length = N by unfold refsN; rw [List.length_map, List.length_range]] at done
      exact hD _ _ ⟨v5, v11, v12, ws, rfl, S, uni, done⟩
  clear S uni
  rintro _ Z1 ⟨v5, v11, v12, ws, rfl, S, uni, full⟩
  have u80 : U.length ≤ 80 := uni.l
  have uni_ok := uni.ok
  have gU : Good U := ⟨u80, uni.ok⟩
  have aU : Alike (U ++ U) := alike_sub uni.al fun x hx => (List.mem_append.mp hx).elim id id
  have oU : Once (U ++ U) U := ⟨fun x => by rw [List.mem_append, or_self], uni.u⟩
  have h0N : 0 < N := by omega
  obtain ⟨dx, kn, ts, B, _, _⟩ := S.book h0N
  refine ⟨_, rfl, lb, _, _, .ref (b 0), rfl, rfl, sq_of S.hb, refsN_at h0N, b 0, dx, _, rfl, B.ob, rfl, b 0, dx, kn, _, ts, ws 0, rfl, B, fun Z2 re z2 nre hre => ?_⟩
  rw [full 0 h0N] at B
  have S2 := S.kx z2
  have hte := B.ws.k z2
  clear S B
  refine ⟨_, rfl, lb, rfl, ⟨_, sq_of S2.hb⟩, for_list (K := K) (a := lb) (xs := refsN N b) (fun i σ' Z => ∃ (v11 v12 : Option V) (ws : Nat → List Wd), σ' = [some (.ref a), some (.int wh), some (.int ((N : Nat) : Int)), some (.ref lb), some (.ref kl), v5, v6, v7, v8, v9, v10, v11, v12, some (.ref re)] ∧ P8 cBo H1 N lb kl b ka Z ws ks ∧ (∀ j, j < N → ws j = U) ∧ Z re = some (.lst (ts.map V.ref)) ∧ TAt Z ts U)
    ⟨_, _, ws, rfl, S2, full, hre, hte⟩ (fun i σ Z _ ⟨_, _, _, _, S, _⟩ => sq_of S.hb) ?_ ?_⟩
  · clear S2 full uni hre hte
    rintro i y σ Z hy ⟨v11, v12, ws, rfl, S, full, hre, hte⟩
    obtain ⟨i', hi', rfl⟩ : ∃ q, (List.range N)[i]? = some q ∧ V.ref (b q) = y := by
      unfold refsN at hy
      rw [List.getElem?_map] at hy
      exact Option.map_eq_some_iff.mp hy
    have hi := List.mem_range.mp (List.mem_of_getElem? hi')
    refine ⟨_, rfl, lb, rfl, ⟨_, sq_of S.hb⟩, for_list (K := K) (a := lb) (xs := refsN N b) (fun q σ' Z => ∃ (v12 : Option V) (ws : Nat → List Wd), σ' = [some (.ref a), some (.int wh), some (.int ((N : Nat) : Int)), some (.ref lb), some (.ref kl), v5, v6, v7, v8, v9, v10, some (.ref (b i')), v12, some (.ref re)] ∧ P8 cBo H1 N lb kl b ka Z ws ks ∧ (∀ j, j < N → ws j = U) ∧ Z re = some (.lst (ts.map V.ref)) ∧ TAt Z ts U)
      ⟨_, ws, rfl, S, full, hre, hte⟩ (fun i σ Z _ ⟨_, _, _, S, _⟩ => sq_of S.hb) ?_ ?_⟩
    · clear S full hre hte
      rintro q y σ Z hy ⟨v12, ws, rfl, S, full, hre, hte⟩
      obtain ⟨j, hj', rfl⟩ : ∃ l, (List.range N)[q]? = some l ∧ V.ref (b l) = y := by
        unfold refsN at hy
        rw [List.getElem?_map] at hy
        exact Option.map_eq_some_iff.mp hy
      have hj := List.mem_range.mp (List.mem_of_getElem? hj')
      obtain ⟨dx, kn, us, B, _, _⟩ := S.book hi
      obtain ⟨dy, km, vs, C, _, _⟩ := S.book hj
      rw [full j hj] at C
      refine ⟨_, rfl, b i', dx, _, rfl, B.ob, rfl, _, rfl, b j, dy, _, rfl, C.ob, rfl, b j, dy, km, _, vs, U, rfl, C, fun Z3 r3 z3 nr3 hr3 => ?_⟩
      have S5 := S.kx z3
      obtain ⟨dx5, kn5, ts5, B5, _, q2⟩ := S5.book hi
      rw [full i' hi] at B5
      refine ⟨b i', dx5, kn5, r3, _, ts5, U, U, U, rfl, B5, ⟨vs, sq_of hr3, (C.ws.k z3).w⟩, gU, gU, aU, oU, u80, fun Z4 r4 ts4 z4 nr4 B4 => ?_⟩
      refine ⟨rfl, _, rfl, ite0 (by rw [Int.sub_self]; rfl) ?_⟩
      have S6 := q2 Z4 r4 ts4 _ z4 nr4 B4
      have full6 : ∀ l, l < N → up ws i' U l = U := fun l hl => by
        by_cases e : l = i'
        · rw [e, up_at]
        · rw [up_no e]
          exact full l hl
      have hre6 : Z4 re = some (.lst (ts.map V.ref)) := Ke.ne1 z4 (fun e => by have := B5.ob; rw [← e, z3.lst hre] at this; cases this) (z3.lst hre) fun ps z => (by cases z)
      have hte6 := tat_ke z4 B5.ob (fun ys z => by cases z) (hte.k z3)
      obtain ⟨dx6, kn6, ts6, B6, _, _⟩ := S6.book hi
      rw [full6 i' hi] at B6
      refine ⟨_, rfl, b i', dx6, _, rfl, B6.ob, rfl, b i', dx6, kn6, _, ts6, U, rfl, B6, fun Z5 r5 z5 nr5 hr5 => ?_⟩
      refine ⟨_, rfl, wsD U, wsD U, wsD_dp ⟨_, sq_of hr5, (B6.ws.k z5).w⟩, wsD_dp ⟨_, sq_of (z5.lst hre6), (hte6.k z5).w⟩, wsD_sh uni_ok, wsD_sh uni_ok, _, rfl, ?_⟩
      rw [wsD_eqv, decide_eq_true rfl]
      exact iteF ⟨_, _, rfl, S6.kx z5, full6, z5.lst hre6, hte6.k z5⟩
    · rintro σ Z2 ⟨v12, ws, rfl, S, full, hre, hte⟩
      exact ⟨_, _, ws, rfl, S, full, hre, hte⟩
  · rintro σ Z ⟨v11, v12, ws, rfl, S, full, hre, hte⟩
    exact ⟨rfl, fun Z' z' => q Z'⟩
end
end CH
end

section
set_option Elab.async false
set_option linter.all false
set_option maxRecDepth 100000
set_option maxHeartbeats 4000000
set_option exponentiation.threshold 2000000
namespace CH
open PySem PySem.Spec PyProof.Rows L2
open GxR (TabB TabG Tabbed)
theorem defT_of {K : PySem.W.Frag} {mg : Str → Option Value} {x : Str} {st : Stmt} (F : ∃ fd, FnT K x st (He.fAd K (x, none)) fd) (hm : mg x = some (.ref (He.ga K x))) : DefT K mg x st (He.codeOf K (x, none)) := by
  obtain ⟨fd, F⟩ := F
  refine ⟨_, fd, F, hm, fun oc od osl fd' lk' => ?_⟩
  obtain ⟨oc1, od1, dV, kV, doc, pm, an, cdv, ct, osl1, rfl, lk, hcd, _, _⟩ := F.ex
  obtain ⟨c', ec⟩ := He.codeIn_ref hcd
  have e2 : He.codeOf K (x, none) = c' := He.codeOf_eq lk ec
  rw [lk] at lk'
  cases lk'
  rw [e2]
  exact ec
theorem intE {mg : Str → Option Value} {x : Str} {i : Int} (h : ∃ t, mg x = some (.int i t)) : ∃ u, mg x = some u ∧ RelV (.int i) u := by
  obtain ⟨t, e⟩ := h
  exact ⟨_, e, t, rfl⟩
theorem bits_of {z : Int} (h : Builtin.Int.intBits z ≤ 1048576) : Bits z 1100000 := Bits.mono (n := 1048576) (PySem.intBits_le_iff.mp h) (by decide)
theorem facts {P : Program} {w : World} {K : PySem.W.Frag} {h : Heap} {mg : Str → Option Value} {f : Addr} (X : K.In h) (G : h.Ns mainGlobals mg) (hfa : mg ("law" : Str) = some (.ref f)) (c0 : He.SaysX fa fn [] tf ex w h K) :
    ∃ fd : FuncData, (∀ (s : Shared) (v : Value), BindsTo s fd ⟨[v], []⟩ [("_law_script", v)]) ∧ ∀ base : Heap, K.In base → base.Ns mainGlobals mg  →
      FnOk P w K mg base CX0 13 f fd ["_law_script"] (sp_law K ) := by
  have c : He.SaysD fa fn K := c0.t.d
  have D_is_whole : DefT K mg "is_whole" (top 16) (He.codeOf K ("is_whole", none)) := defT_of (c.def_ 0 (d := dd "is_whole" (top 16)) rfl) (He.glo_ok X G (c.fact 0 (f := .glo "is_whole") rfl))
  have D_is_number : DefT K mg "is_number" (top 17) (He.codeOf K ("is_number", none)) := defT_of (c.def_ 1 (d := dd "is_number" (top 17)) rfl) (He.glo_ok X G (c.fact 1 (f := .glo "is_number") rfl))
  have D_is_hand : DefT K mg "is_hand" (top 18) (He.codeOf K ("is_hand", none)) := defT_of (c.def_ 2 (d := dd "is_hand" (top 18)) rfl) (He.glo_ok X G (c.fact 2 (f := .glo "is_hand") rfl))
  have D_is_person : DefT K mg "is_person" (top 19) (He.codeOf K ("is_person", none)) := defT_of (c.def_ 3 (d := dd "is_person" (top 19)) rfl) (He.glo_ok X G (c.fact 3 (f := .glo "is_person") rfl))
  have D_is_hour : DefT K mg "is_hour" (top 20) (He.codeOf K ("is_hour", none)) := defT_of (c.def_ 4 (d := dd "is_hour" (top 20)) rfl) (He.glo_ok X G (c.fact 4 (f := .glo "is_hour") rfl))
  have D_is_answer : DefT K mg "is_answer" (top 21) (He.codeOf K ("is_answer", none)) := defT_of (c.def_ 5 (d := dd "is_answer" (top 21)) rfl) (He.glo_ok X G (c.fact 5 (f := .glo "is_answer") rfl))
  have D_is_word : DefT K mg "is_word" (top 22) (He.codeOf K ("is_word", none)) := defT_of (c.def_ 6 (d := dd "is_word" (top 22)) rfl) (He.glo_ok X G (c.fact 6 (f := .glo "is_word") rfl))
  have D_copied_words : DefT K mg "copied_words" (top 23) (He.codeOf K ("copied_words", none)) := defT_of (c.def_ 7 (d := dd "copied_words" (top 23)) rfl) (He.glo_ok X G (c.fact 7 (f := .glo "copied_words") rfl))
  have D_each_once : DefT K mg "each_once" (top 24) (He.codeOf K ("each_once", none)) := defT_of (c.def_ 8 (d := dd "each_once" (top 24)) rfl) (He.glo_ok X G (c.fact 8 (f := .glo "each_once") rfl))
  have D_checked_words : DefT K mg "checked_words" (top 25) (He.codeOf K ("checked_words", none)) := defT_of (c.def_ 9 (d := dd "checked_words" (top 25)) rfl) (He.glo_ok X G (c.fact 9 (f := .glo "checked_words") rfl))
  have D_check_hand : DefT K mg "check_hand" (top 26) (He.codeOf K ("check_hand", none)) := defT_of (c.def_ 10 (d := dd "check_hand" (top 26)) rfl) (He.glo_ok X G (c.fact 10 (f := .glo "check_hand") rfl))
  have D_check_person : DefT K mg "check_person" (top 27) (He.codeOf K ("check_person", none)) := defT_of (c.def_ 11 (d := dd "check_person" (top 27)) rfl) (He.glo_ok X G (c.fact 11 (f := .glo "check_person") rfl))
  have D_check_hour : DefT K mg "check_hour" (top 28) (He.codeOf K ("check_hour", none)) := defT_of (c.def_ 12 (d := dd "check_hour" (top 28)) rfl) (He.glo_ok X G (c.fact 12 (f := .glo "check_hour") rfl))
  have D_check_answer : DefT K mg "check_answer" (top 29) (He.codeOf K ("check_answer", none)) := defT_of (c.def_ 13 (d := dd "check_answer" (top 29)) rfl) (He.glo_ok X G (c.fact 13 (f := .glo "check_answer") rfl))
  have D_joined : DefT K mg "joined" (top 31) (He.codeOf K ("joined", none)) := defT_of (c.def_ 14 (d := dd "joined" (top 31)) rfl) (He.glo_ok X G (c.fact 14 (f := .glo "joined") rfl))
  have D_answers_that_count : DefT K mg "answers_that_count" (top 32) (He.codeOf K ("answers_that_count", none)) := defT_of (c.def_ 15 (d := dd "answers_that_count" (top 32)) rfl) (He.glo_ok X G (c.fact 15 (f := .glo "answers_that_count") rfl))
  have D_answer_of : DefT K mg "answer_of" (top 33) (He.codeOf K ("answer_of", none)) := defT_of (c.def_ 16 (d := dd "answer_of" (top 33)) rfl) (He.glo_ok X G (c.fact 16 (f := .glo "answer_of") rfl))
  have D_Book_init : MakT K mg "Book" (He.ga K "Book") "Book.__init__" (inClass (top 35) 0) (He.codeOf K ("Book", some "__init__")) := makT_of (c.def_ 17 (d := de ("Book", some "__init__") "__init__" "Book.__init__" (inClass (top 35) 0) []) rfl) (He.mkr_ok (c.fact 51 (f := .mkr "Book") rfl)) (He.glo_ok X G (c.fact 47 (f := .glo "Book") rfl))
  have D_Book_answer : MetT K (He.ga K "Book") "answer" "Book.answer" (inClass (top 35) 1) (He.codeOf K ("Book", some "answer")) := metT_of (c.def_ 18 (d := de ("Book", some "answer") "answer" "Book.answer" (inClass (top 35) 1) []) rfl) (He.meth_ok (c.fact 52 (f := .meth "Book" "answer") rfl)) (He.cls_ok (c.fact 48 (f := .cls "Book") rfl))
  have D_Book_hear : MetT K (He.ga K "Book") "hear" "Book.hear" (inClass (top 35) 2) (He.codeOf K ("Book", some "hear")) := metT_of (c.def_ 19 (d := de ("Book", some "hear") "hear" "Book.hear" (inClass (top 35) 2) []) rfl) (He.meth_ok (c.fact 53 (f := .meth "Book" "hear") rfl)) (He.cls_ok (c.fact 48 (f := .cls "Book") rfl))
  have D_Book_all_words : MetT K (He.ga K "Book") "all_words" "Book.all_words" (inClass (top 35) 3) (He.codeOf K ("Book", some "all_words")) := metT_of (c.def_ 20 (d := de ("Book", some "all_words") "all_words" "Book.all_words" (inClass (top 35) 3) []) rfl) (He.meth_ok (c.fact 54 (f := .meth "Book" "all_words") rfl)) (He.cls_ok (c.fact 48 (f := .cls "Book") rfl))
  have D_Book_says : MetT K (He.ga K "Book") "says" "Book.says" (inClass (top 35) 4) (He.codeOf K ("Book", some "says")) := metT_of (c.def_ 21 (d := de ("Book", some "says") "says" "Book.says" (inClass (top 35) 4) []) rfl) (He.meth_ok (c.fact 55 (f := .meth "Book" "says") rfl)) (He.cls_ok (c.fact 48 (f := .cls "Book") rfl))
  have D__law_number : DefT K mg "_law_number" (top 37) (He.codeOf K ("_law_number", none)) := defT_of (c.def_ 22 (d := dd "_law_number" (top 37)) rfl) (He.glo_ok X G (c.fact 17 (f := .glo "_law_number") rfl))
  have D__law_answers : DefT K mg "_law_answers" (top 39) (He.codeOf K ("_law_answers", none)) := defT_of (c.def_ 23 (d := dd "_law_answers" (top 39)) rfl) (He.glo_ok X G (c.fact 18 (f := .glo "_law_answers") rfl))
  have D__law_due : DefT K mg "_law_due" (top 40) (He.codeOf K ("_law_due", none)) := defT_of (c.def_ 24 (d := dd "_law_due" (top 40)) rfl) (He.glo_ok X G (c.fact 19 (f := .glo "_law_due") rfl))
  have D__law_ask : DefT K mg "_law_ask" (top 41) (He.codeOf K ("_law_ask", none)) := defT_of (c.def_ 25 (d := dd "_law_ask" (top 41)) rfl) (He.glo_ok X G (c.fact 20 (f := .glo "_law_ask") rfl))
  have D__law_deed : DefT K mg "_law_deed" (top 42) (He.codeOf K ("_law_deed", none)) := defT_of (c.def_ 26 (d := dd "_law_deed" (top 42)) rfl) (He.glo_ok X G (c.fact 21 (f := .glo "_law_deed") rfl))
  have D__law_same : DefT K mg "_law_same" (top 43) (He.codeOf K ("_law_same", none)) := defT_of (c.def_ 27 (d := dd "_law_same" (top 43)) rfl) (He.glo_ok X G (c.fact 22 (f := .glo "_law_same") rfl))
  have D__law_kind : DefT K mg "_law_kind" (top 44) (He.codeOf K ("_law_kind", none)) := defT_of (c.def_ 28 (d := dd "_law_kind" (top 44)) rfl) (He.glo_ok X G (c.fact 23 (f := .glo "_law_kind") rfl))
  have D__law_two_right : DefT K mg "_law_two_right" (top 45) (He.codeOf K ("_law_two_right", none)) := defT_of (c.def_ 29 (d := dd "_law_two_right" (top 45)) rfl) (He.glo_ok X G (c.fact 24 (f := .glo "_law_two_right") rfl))
  have D__law_hear_right : DefT K mg "_law_hear_right" (top 46) (He.codeOf K ("_law_hear_right", none)) := defT_of (c.def_ 30 (d := dd "_law_hear_right" (top 46)) rfl) (He.glo_ok X G (c.fact 25 (f := .glo "_law_hear_right") rfl))
  have D_law : DefT K mg "law" (top 47) (He.codeOf K ("law", none)) := defT_of (c.def_ 31 (d := dd "law" (top 47)) rfl) (He.glo_ok X G (c.fact 26 (f := .glo "law") rfl))
  have n_Book__hand : NoAttr K (He.ga K "Book") "_hand" := He.noat_ok (c.fact 49 (f := .noat "Book" "_hand") rfl)
  have n_Book__known : NoAttr K (He.ga K "Book") "_known" := He.noat_ok (c.fact 50 (f := .noat "Book" "_known") rfl)
  obtain ⟨x0, xr⟩ := He.ba c0.more
  obtain ⟨x1, xr⟩ := He.ba xr
  obtain ⟨x2, xr⟩ := He.ba xr
  obtain ⟨x3, xr⟩ := He.ba xr
  obtain ⟨x4, xr⟩ := He.ba xr
  obtain ⟨x5, xr⟩ := He.ba xr
  obtain ⟨x6, xr⟩ := He.ba xr
  obtain ⟨x7, xr⟩ := He.ba xr
  obtain ⟨x8, xr⟩ := He.ba xr
  have T : Tx K mg (He.ga K "ANSWERS") := ⟨He.free_ok X G (c.fact 27 (f := .free "ValueError") rfl), He.free_ok X G (c.fact 28 (f := .free "abs") rfl), He.free_ok X G (c.fact 29 (f := .free "bool") rfl), He.free_ok X G (c.fact 30 (f := .free "enumerate") rfl), He.free_ok X G (c.fact 31 (f := .free "int") rfl), He.free_ok X G (c.fact 32 (f := .free "isinstance") rfl), He.free_ok X G (c.fact 33 (f := .free "len") rfl), He.free_ok X G (c.fact 34 (f := .free "list") rfl), He.free_ok X G (c.fact 35 (f := .free "max") rfl), He.free_ok X G (c.fact 36 (f := .free "range") rfl), He.free_ok X G (c.fact 37 (f := .free "sorted") rfl), He.free_ok X G (c.fact 38 (f := .free "str") rfl), He.free_ok X G (c.fact 39 (f := .free "sum") rfl), He.free_ok X G (c.fact 40 (f := .free "tuple") rfl), intE (He.int_ok X G (c.fact 41 (f := .int "MOST_WORDS" 80) rfl)), intE (He.int_ok X G (c.fact 42 (f := .int "COUNTS" 99) rfl)), intE (He.int_ok X G (c.fact 43 (f := .int "HANDS" 4) rfl)), intE (He.int_ok X G (c.fact 44 (f := .int "PEOPLE" 8) rfl)), intE (He.int_ok X G (c.fact 45 (f := .int "HOURS" 12) rfl)), ⟨_, He.glo_ok X G (c.fact 46 (f := .glo "ANSWERS") rfl), rfl⟩, fun H => He.tupB_ok x0 H⟩
  have e_Book : Own K mg "Book" (He.ga K "Book") := own_of (He.glo_ok X G (c.fact 47 (f := .glo "Book") rfl)) (He.cls_ok (c.fact 48 (f := .cls "Book") rfl)) x1
  have e_HourError : Exn K mg "HourError" (He.ga K "HourError") := exn_of X G (c.fact 56 (f := .glo "HourError") rfl) (c.fact 57 (f := .exc "HourError") rfl) x2
  have e_BadWords : Exn K mg "BadWords" (He.ga K "BadWords") := exn_of X G (c.fact 58 (f := .glo "BadWords") rfl) (c.fact 59 (f := .exc "BadWords") rfl) x3
  have e_Unlike : Exn K mg "Unlike" (He.ga K "Unlike") := exn_of X G (c.fact 60 (f := .glo "Unlike") rfl) (c.fact 61 (f := .exc "Unlike") rfl) x4
  have e_TooMany : Exn K mg "TooMany" (He.ga K "TooMany") := exn_of X G (c.fact 62 (f := .glo "TooMany") rfl) (c.fact 63 (f := .exc "TooMany") rfl) x5
  have m_Unlike_HourError := He.exm_ok (c.fact 64 (f := .exm "Unlike" "HourError" true) rfl)
  have m_TooMany_HourError := He.exm_ok (c.fact 65 (f := .exm "TooMany" "HourError" true) rfl)
  have i_Unlike_Unlike := kitEB_ok x6
  have i_TooMany_Unlike := kitEB_ok x7
  have i_TooMany_TooMany := kitEB_ok x8
  obtain ⟨f', fd, F, hm, hc⟩ := D_law.ex
  have e := hfa.symm.trans hm
  cases e
  have b := FunD.bindsA (ps := ["_law_script"]) F fun _ _ _ _ _ _ us hl => match us, hl with | [_], _ => rfl
  refine ⟨fd, fun s v => b s [v] rfl, fun base _ _  => ?_⟩
  have k_is_whole := ok_is_whole (P := P) (w := w) (base := base) D_is_whole T
  have k_is_number := ok_is_number D_is_number k_is_whole
  have k_is_hand := ok_is_hand D_is_hand T k_is_number
  have k_is_person := ok_is_person D_is_person T k_is_number
  have k_is_hour := ok_is_hour D_is_hour T k_is_number
  have k_is_answer := ok_is_answer (P := P) (w := w) (base := base) D_is_answer T
  have k_is_word := ok_is_word D_is_word T k_is_number k_is_hand k_is_person k_is_hour k_is_answer
  have k_copied_words := ok_copied_words D_copied_words T e_BadWords k_is_word
  have k_each_once := ok_each_once (P := P) (w := w) (base := base) D_each_once T e_Unlike
  have k_checked_words := checked0 (ok_checked_words D_checked_words k_copied_words k_each_once)
  have k_answers_that_count := ok_answers_that_count (P := P) (w := w) (base := base) D_answers_that_count T
  have k_answer_of := ok_answer_of (P := P) (w := w) (K := K) (base := base) D_answer_of
  have k_checked_wordsX := ok_checked_words D_checked_words k_copied_words k_each_once
  have k_joinedX := ok_joined D_joined T e_TooMany k_checked_wordsX k_each_once
  have k_check_hand := ok_check_hand D_check_hand k_is_hand
  have k_check_person := ok_check_person D_check_person k_is_person
  have k_check_hour := ok_check_hour D_check_hour k_is_hour
  have k_check_answer := ok_check_answer D_check_answer k_is_answer
  have k_Book := ok_Book_init D_Book_init e_Book n_Book__hand n_Book__known k_check_hand
  have k_Book_answerX := ok_answer D_Book_answer T e_Book n_Book__hand n_Book__known e_TooMany k_check_person k_check_hour k_check_answer
  have k_Book_hearX := ok_hear D_Book_hear T e_Book n_Book__known k_joinedX
  have k_Book_all_words := ok_all_words (P := P) (w := w) (base := base) (mg := mg) D_Book_all_words T e_Book n_Book__known
  have k_Book_says := ok_says D_Book_says T e_Book n_Book__known k_check_person k_check_hour k_answers_that_count k_answer_of
  have k_law_number := ok_law_number (P := P) (w := w) (base := base) D__law_number
  have k_law_answers := ok_law_answers (P := P) (w := w) (base := base) D__law_answers
  have kd : Kd2 K (He.ga K "HourError") (He.ga K "Unlike") (He.ga K "TooMany") := ⟨m_Unlike_HourError, m_TooMany_HourError, i_Unlike_Unlike, i_TooMany_Unlike, i_TooMany_TooMany⟩
  have k_Book_all_wordsH := ok_all_wordsH (P := P) (w := w) (base := base) (mg := mg) D_Book_all_words T e_Book n_Book__known
  have k_law_due := ok_law_due (P := P) (w := w) (base := base) D__law_due T
  have k_law_ask := ok_law_ask D__law_ask T (answer0 k_Book_answerX) (hear0 k_Book_hearX)
  have k_law_deed := ok_law_deed (P := P) (w := w) (base := base) D__law_deed T
  have k_law_same := ok_law_same D__law_same T k_Book_all_words k_Book_says k_law_answers
  have k_law_kind := ok_law_kind D__law_kind T e_HourError e_Unlike e_TooMany kd k_Book_hearX
  have k_law_two_right := ok_law_two_right D__law_two_right T e_HourError e_TooMany kd k_Book (answer0 k_Book_answerX) k_Book_answerX (hear0 k_Book_hearX) k_Book_all_words k_Book_says k_Book_all_wordsH k_law_kind
  have k_law_hear_right := ok_law_hear_right D__law_hear_right T k_Book (answer0 k_Book_answerX) (hear0 k_Book_hearX) k_Book_all_words k_Book_says k_law_kind k_law_two_right
  exact fnok_of F hc sc_law (fun vs H Q E h => by obtain ⟨a, ns, rfl, _⟩ := h; rfl) fun A outer s H vs Q E hr h => ok_law T k_law_number k_law_deed k_law_due k_law_ask k_law_same k_Book (hear0 k_Book_hearX) k_Book_all_words k_law_hear_right hr h
end CH
end

set_option Elab.async false
set_option linter.all false
open PySem PySem.W PySem.Calls PyProof.Rows
set_option maxRecDepth 100000 in
set_option maxHeartbeats 0 in
theorem PySem.Challenge.cw_commonhour_k08_whole_books_holds : PySem.Challenge.rw_commonhour_k08_whole_books.Holds := by
  w_on; o_law
  refine HandSHeadRun.head_any (r := OpenLaw.row PySem.Challenge.rw_commonhour_k08_whole_books) (q := view (OpenLaw.row PySem.Challenge.rw_commonhour_k08_whole_books).prog [47]) (H := CH.hk) (ob := CH.ob) (M := 12000) (loose := CH.loose) (d := HandSHeadRun.topDef (OpenLaw.row PySem.Challenge.rw_commonhour_k08_whole_books).prog 47) (kwd := []) CH.ob_eq
    (by kernel_rfl) (fun s => by kernel_rfl) CH.run (by kernel_rfl) (by kernel_rfl) (by kernel_rfl) (by rfl) (by first | assumption | decide +kernel) (by decide +kernel) ⟨rfl, rfl, rfl, rfl, rfl, by decide +kernel⟩ ?hw ?hc
  case hw => w_witness2
  case hc =>
    refine LamX.walk_ofTsE (l := PySem.Challenge.rw_commonhour_k08_whole_books) (n := 63) (k := 13) (x := "_law_script") (CX := fun _ => L2.CX0) rfl (by decide) (by kernel_rfl) ⟨rfl, by decide, by decide⟩ ?F (fun _ _ _ _ _ z => z)
    intro w mg fa h Y G hmg0
    obtain ⟨K, KX, c⟩ := Y
    have hmg : mg ("law" : PySem.Str) = some (.ref fa) := by
      have e : (HandSHeadRun.topDef (OpenLaw.row PySem.Challenge.rw_commonhour_k08_whole_books).prog 47).name = ("law" : PySem.Str) := by kernel_rfl
      rw [← e]
      exact hmg0
    obtain ⟨fd, hb, hF⟩ := CH.facts (P := (PySem.Challenge.rw_commonhour_k08_whole_books).prog) (w := w) KX G hmg c
    refine ⟨K, KX, fd, CH.tf.map (He.cT K), CH.sp_law K , ?_, ?_, ?_, hb, ?_, ?_⟩
    · intro p hp
      obtain ⟨x, hx, rfl⟩ := List.mem_map.mp hp
      exact c.empty _ hx
    · intro p hp
      obtain ⟨x, hx, rfl⟩ := List.mem_map.mp hp
      exact c.out _ hx
    · intro p hp
      obtain ⟨x, hx, rfl⟩ := List.mem_map.mp hp
      exact PySem.W.codeHd_of_K KX (c.hd _ hx)
    · intro H a ns hl hbits hT hS
      exact ⟨a, ns, rfl, hS, hl, fun z hz => CH.bits_of (hbits z hz), fun _ => rfl⟩
    · exact fun base hB hN hT => hF base hB hN 
