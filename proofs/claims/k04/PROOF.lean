import PyProof.Rows.All
import Wide.All
import OpenK.AllK
import Wide.FinOn
import KE.KDictSum
import KE.KDictCopyH
import PyProof.DictMoreH
import HandS.ForMost
import HandS.SortInts
import HandS.NamedTupSort
import HandS.DictTup
import HandS.SetKeys
import HandS.Wide
import HandS.ExcValue
import HandS.AnyAll
import HandS.Codes
import HandS.EndTab
import HandS.IsInst
import HandS.TupLe
import HandS.Conv
import HandS.Flow
import HandS.Style
import HandS.HeadHook4
import HandS.HeadWalk
import HandS.Head2
import HandS.Exc
import HandS.WordsExc
import HandS.ExcOwn
import HandS.ExcIs
import HandS.TryOnly
import HandS.Zip
import HandS.HeadHook1
import HandS.HeadHook2
import KE.KNest
import KE.KNestM
import KE.KStateDown
import HandS.Head0
import HandS.Head1
import HandS.HeadEnd
import HandS.HeadHook3
import KE.IntBitsLaws
import PySem.Challenge.RW_commonhour_k04_first_by_hand
section
set_option Elab.async false
set_option linter.all false
set_option maxRecDepth 100000
set_option maxHeartbeats 4000000
/-! sorted of tuples: whole numbers, then one text -/
namespace CH
open PySem PySem.Spec PyProof.Rows L2

def strInts (a : Str) : List Int := (a.cps.toList : List Nat).map Int.ofNat
theorem lexLt_nat : ∀ xs ys : List Nat, HT.lexLt (xs.map Int.ofNat) (ys.map Int.ofNat) = decide (xs < ys)
  | [], [] => by
    rw [List.map_nil, HT.lexLt_nil_nil]
    exact (decide_eq_false (by simp)).symm
  | [], y :: ys => by
    rw [List.map_nil, List.map_cons, HT.lexLt_nil_cons]
    exact (decide_eq_true (by simp)).symm
  | x :: xs, [] => by
    rw [List.map_nil, List.map_cons, HT.lexLt_cons_nil]
    exact (decide_eq_false (by simp)).symm
  | x :: xs, y :: ys => by
    rw [List.map_cons, List.map_cons, HT.lexLt_cons]
    by_cases e : x = y
    · subst e
      rw [if_pos rfl, lexLt_nat xs ys]
      refine decide_eq_decide.mpr ?_
      rw [List.cons_lt_cons_iff]
      constructor
      · intro h; exact .inr ⟨rfl, h⟩
      · intro h
        rcases h with h | h
        · exact absurd h (Nat.lt_irrefl _)
        · exact h.2
    · rw [if_neg (fun q => e (Int.ofNat.inj q))]
      refine decide_eq_decide.mpr ?_
      rw [List.cons_lt_cons_iff]
      constructor
      · intro h; exact .inl (by simpa using h)
      · intro h
        rcases h with h | h
        · simpa using h
        · exact absurd h.1 e

/-- v is a tuple of the ints ns, then the text z -/
def IsWd (h : Heap) (v : Value) (ns : List Int) (z : Str) : Prop := ∃ (a : Addr) (o : Obj) (its : List Value) (t : Tok) (n : Nat), v = .ref a ∧ h.get? a = some o ∧ o.cls = .type "tuple" ∧ o.data = .seq (its ++ [Value.str z t]).toArray n ∧ IntsAre its ns
theorem IsWd.keeps {h h' : Heap} {v : Value} {ns : List Int} {z : Str} (p : IsWd h v ns z) (k : ∀ b o, h.get? b = some o → o.cls = .type "tuple" → h'.get? b = some o) : IsWd h' v ns z := by
  obtain ⟨a, o, its, t, n, e, ho, hc, hd, hi⟩ := p
  exact ⟨a, o, its, t, n, e, k _ _ ho hc, hc, hd, hi⟩
def wkey (ns : List Int) (z : Str) : List Int := ns ++ strInts z
section
variable {prog : Program} {w : World} {A : Around} {E : Value → Shared → Prop} {s : Shared}
theorem wd_lex {z y : Str} {t u : Tok} {Q : Bool → Shared → Prop} : ∀ {its jts : List Value} {ns ms : List Int} {i : Nat}, IntsAre its ns → IntsAre jts ms → ns.length = ms.length → 0 < i + ns.length → Q (HT.lexLt (wkey ns z) (wkey ms y)) s →
    PySem.W.KatLex prog w A true false Q ((its ++ [Value.str z t]).zip (jts ++ [Value.str y u])) i s
  | _, _, _, _, i, .nil, .nil, _, h0, h => by
    show PySem.W.KatLex prog w A true false Q [(Value.str z t, Value.str y u)] i s
    have h : Q (HT.lexLt (strInts z) (strInts y)) s := h
    unfold strInts at h
    rw [lexLt_nat] at h
    refine PySem.W.kat_cons (wpAny_eqBool_str ?_)
    refine PySem.W.kat_go (fun e1 => ?_) (fun e1 => ?_)
    · have ex : z = y := by simpa using e1
      subst ex
      rw [decide_eq_false (List.lt_irrefl _)] at h
      exact PySem.W.kat_yes (PySem.W.kat_nil h)
    · have hi : (true && i == 0) = false := by
        have h1 : 0 < i := h0
        have : i ≠ 0 := by omega
        simp [this]
      have key := PySem.W.kat_one (prog := prog) (w := w) (A := A) (E := fun _ _ => False) (s := s) (Q := Q) (Value.str z t) (Value.str y u) (PyProof.Rows.lt_str h)
      rw [← hi] at key
      exact PySem.W.kat_no key
  | _, _, _, _, i, .cons a v hi, .cons b v2 hj, hl, h0, h => by
    rename_i its' ns' jts' ms'
    show PySem.W.KatLex prog w A true false Q ((Value.int a v, Value.int b v2) :: ((its' ++ [Value.str z t]).zip (jts' ++ [Value.str y u]))) i s
    have hl' : ns'.length = ms'.length := Nat.succ.inj hl
    have h : Q (HT.lexLt (a :: wkey ns' z) (b :: wkey ms' y)) s := h
    rw [HT.lexLt_cons] at h
    refine PySem.W.kat_cons (SeqAt.EqAt.int_int a v b v2 prog w _ _ ?_)
    refine PySem.W.kat_go (fun e1 => ?_) (fun e1 => ?_)
    · have ex : a = b := by simpa using e1
      rw [if_pos ex] at h
      exact PySem.W.kat_yes (wd_lex hi hj hl' (by omega) h)
    · have ex : ¬ a = b := by simpa using e1
      rw [if_neg ex] at h
      refine PySem.W.kat_no ?_
      cases hb : (true && i == 0) with
      | true => exact oneLt_int h
      | false => exact PySem.W.kat_one _ _ (PyProof.Rows.lt_int h)
theorem wd_cmp {vs : List Value} {k : Value → List Int × Str} {m : Nat} (hm0 : 0 < m) (hp : ∀ v ∈ vs, IsWd s.heap v (k v).1 (k v).2 ∧ (k v).1.length = m) : SrtO.Cmp prog w A s (tuples' true) (fun p => p.1 ∈ vs) (SrtO.lt2 fun v u => HT.lexLt (wkey (k v).1 (k v).2) (wkey (k u).1 (k u).2)) := by
  intro p q hm hm'
  obtain ⟨h1, l1⟩ := hp _ hm
  obtain ⟨h2, l2⟩ := hp _ hm'
  show wpAny (model prog w) A (keyLt' (tuples' true) p.1 q.1) (fun r s' => s' = s ∧ r = HT.lexLt (wkey (k p.1).1 (k p.1).2) (wkey (k q.1).1 (k q.1).2)) (fun _ _ => False) s
  generalize (k p.1).1 = x at h1 l1 ⊢
  generalize (k p.1).2 = y at h1 ⊢
  generalize (k q.1).1 = x' at h2 l2 ⊢
  generalize (k q.1).2 = y' at h2 ⊢
  obtain ⟨a, o, its, t, n, e, ho, hc, hd, hi⟩ := h1
  obtain ⟨a', o', its', t', n', e', ho', hc', hd', hi'⟩ := h2
  rw [e, e']
  have z1 : its.length = m := hi.length.trans l1
  have z2 : its'.length = m := hi'.length.trans l2
  refine PySem.W.kat_lt ho hd ho' hd' ?_
  have ef : decide ((its ++ [Value.str y t]).toArray.size < (its' ++ [Value.str y' t']).toArray.size) = false := decide_eq_false (by
    simp only [List.size_toArray, List.length_append, List.length_cons, List.length_nil]
    omega)
  rw [ef]
  exact wd_lex hi hi' (l1.trans l2.symm) (by omega) ⟨rfl, rfl⟩
theorem wd_firsts {h : Heap} {k : Value → List Int × Str} {m : Nat} (hm0 : 0 < m) : ∀ {vs : List Value}, (∀ v ∈ vs, IsWd h v (k v).1 (k v).2 ∧ (k v).1.length = m) → ∃ fs : List Value, PySem.W.KatTups h vs fs ∧ fs.length = vs.length ∧ ∀ f ∈ fs, ∃ x t, f = Value.int x t
  | [], _ => ⟨[], PySem.W.KatTups.nil, rfl, fun _ hm => by simp at hm⟩
  | v :: vs, hp => by
    obtain ⟨fs, h1, h2, h3⟩ := wd_firsts (k := k) hm0 (vs := vs) fun v' hm => hp v' (List.mem_cons_of_mem _ hm)
    obtain ⟨⟨a, o, its, t, n, e, ho, hc, hd, hi⟩, l⟩ := hp v (List.mem_cons_self ..)
    have z1 : its.length = m := hi.length.trans l
    generalize hk : (k v).1 = ns at hi l
    cases hi with
    | nil => simp at z1; omega
    | cons x tx hi' =>
      refine ⟨.int x tx :: fs, ?_, by rw [List.length_cons, List.length_cons, h2], fun f hm => ?_⟩
      · subst e
        exact PySem.W.KatTups.cons ho hc hd (by simp) h1
      · rcases List.mem_cons.mp hm with rfl | hm
        · exact ⟨x, tx, rfl⟩
        · exact h3 f hm
theorem wd_sortable {a : Addr} {vs : List Value} {k : Value → List Int × Str} {m : Nat} (hm0 : 0 < m) (h0 : 0 < vs.length) (hp : ∀ v ∈ vs, IsWd s.heap v (k v).1 (k v).2 ∧ (k v).1.length = m) (ha : ∀ o, s.heap.get? a = some o → o.cls ≠ .type "tuple") :
    SrtO.SortableO prog w A s a vs fun v u => HT.lexLt (wkey (k v).1 (k v).2) (wkey (k u).1 (k u).2) := by
  intro h' keep
  have hp' : ∀ v ∈ vs, IsWd h' v (k v).1 (k v).2 ∧ (k v).1.length = m := fun v hm => ⟨(hp v hm).1.keeps fun b o e c => keep b o (fun z => by subst z; exact ha o e c) e, (hp v hm).2⟩
  obtain ⟨fs, h1, h2, h3⟩ := wd_firsts hm0 hp'
  refine ⟨tuples' true, fun Q E hq => ?_, wd_cmp (s := { s with heap := h' }) hm0 hp'⟩
  refine PySem.W.kat_kind (s := { s with heap := h' }) (T := .type "int") h1 (by omega) (fun f hm => ?_) (by rfl) ?_
  · obtain ⟨x, t, rfl⟩ := h3 f hm
    exact PySem.W.Looks.now
  · have e : (Value.type "int" != Value.type "tuple") = true := by first | decide +kernel | rfl | decide
    rw [e]
    exact hq
end
end CH
end

section
set_option Elab.async false
set_option linter.all false
set_option maxRecDepth 100000
set_option maxHeartbeats 4000000
namespace CH
open PySem PySem.Spec PyProof.Rows L2
/-! ### sorted of words, by rules of the layer -/
def wdV (p : List Int × Str) : List V := p.1.map V.int ++ [.str p.2]
def adO : Value → Addr
  | .ref a => a
  | _ => 0
theorem vals_wd {h : Heap} {t : Addr} {p : List Int × Str} {its : List Value} (r : Vals (wdV p) its) (ht : IsTup h t its.toArray) : IsWd h (.ref t) p.1 p.2 := by
  obtain ⟨o, ho, hc, n, hd⟩ := ht
  obtain ⟨ns, z⟩ := p
  unfold wdV at r
  have split : ∀ (ns : List Int) (its : List Value), Vals (ns.map V.int ++ [V.str z]) its → ∃ js t, its = js ++ [Value.str z t] ∧ IntsAre js ns := by
    intro ns
    induction ns with
    | nil =>
      intro its r
      cases r with
      | cons r1 r2 =>
        cases r2
        obtain ⟨t, rfl⟩ := r1
        exact ⟨[], t, rfl, .nil⟩
    | cons n ns ih =>
      intro its r
      cases r with
      | cons r1 r2 =>
        obtain ⟨t, rfl⟩ := r1
        obtain ⟨js, t2, rfl, hi⟩ := ih _ r2
        exact ⟨Value.int n t :: js, t2, rfl, .cons n t hi⟩
  obtain ⟨js, tk, rfl, hi⟩ := split ns its r
  exact ⟨t, o, js, tk, n, rfl, ho, hc, hd, hi⟩
theorem refs_vals : ∀ {ts : List Addr} {us : List Value}, Vals (ts.map V.ref) us → us = ts.map Value.ref
  | [], us, r => by
    cases r
    rfl
  | t :: ts, us, r => by
    cases r with
    | cons h q =>
      cases h
      rw [List.map_cons, ← refs_vals q]
theorem vals_refs : ∀ ts : List Addr, Vals (ts.map V.ref) (ts.map Value.ref)
  | [] => .nil
  | _ :: ts => .cons rfl (vals_refs ts)
theorem ad_map (ts : List Addr) : (ts.map Value.ref).map adO = ts := by
  rw [List.map_map]
  exact (List.map_congr_left fun _ _ => rfl).trans (List.map_id ts)
theorem ref_map : ∀ {out : List Value}, (∀ v ∈ out, ∃ t, v = Value.ref t) → out = (out.map adO).map Value.ref
  | [], _ => rfl
  | v :: out, h => by
    obtain ⟨t, e⟩ := h v List.mem_cons_self
    subst e
    rw [List.map_cons, List.map_cons, ← ref_map fun u hu => h u (List.mem_cons_of_mem _ hu)] <;> rfl
abbrev keyOf (k : Addr → List Int × Str) (t : Addr) : List Int := wkey (k t).1 (k t).2
abbrev ltVk (k : Addr → List Int × Str) : Value → Value → Bool := fun v u => HT.lexLt (wkey (k (adO v)).1 (k (adO v)).2) (wkey (k (adO u)).1 (k (adO u)).2)
theorem ltVk_swo (k : Addr → List Int × Str) : SrtO.Swo (ltVk k) := NtL.swo_lexL fun v => wkey (k (adO v)).1 (k (adO v)).2
/-- what comes out of the sort -/
theorem wd_out {k : Addr → List Int × Str} {ts : List Addr} {out : List Value} (h1 : SrtO.Srtd (ltVk k) out) (h2 : SrtO.Stb (ltVk k) out (ts.map Value.ref)) :
    ∃ ts' : List Addr, out = ts'.map Value.ref ∧ ts'.Perm ts ∧ ts'.Pairwise fun x y => HT.lexLt (keyOf k y) (keyOf k x) = false := by
  have eo : out = (out.map adO).map Value.ref := ref_map fun u hm => by
    obtain ⟨t, _, e⟩ := List.mem_map.mp (h2.perm.mem_iff.mp hm)
    exact ⟨t, e.symm⟩
  refine ⟨out.map adO, eo, ?_, List.pairwise_map.mpr (h1.imp fun {x y} z => z)⟩
  have p1 := h2.perm.map adO
  rw [ad_map] at p1
  exact p1
/-- the words' places -/
def WdsAt (K : PySem.W.Frag) (H : Hp) (k : Addr → List Int × Str) (m : Nat) (ts : List Addr) : Prop := ∀ t ∈ ts, SqT K H t (wdV (k t)) ∧ (k t).1.length = m
/-- sorted(xs), xs a list of tuples: m ints, a text -/
def rSortWd (K : PySem.W.Frag) : List V → Hp → VK → Prop := fun vs H Q => ∃ (a : Addr) (ts : List Addr) (k : Addr → List Int × Str) (m : Nat), vs = [V.ref a] ∧ SqL K H a (ts.map V.ref) ∧ 0 < m ∧ WdsAt K H k m ts ∧
  ∀ (ts' : List Addr) (q : Addr), ts'.Perm ts → ts'.Pairwise (fun x y => HT.lexLt (keyOf k y) (keyOf k x) = false) → H q = none → Q (.ref q) (upd H q (.lst (ts'.map V.ref)))
/-- the view d.values() at p -/
def valsO (p d : Addr) : HO := .ext fun h => h.IsValuesView p d
theorem valsO_ok {P : Program} {w : World} {H : Hp} {h : Heap} {p d : Addr} (e : h.get? p = some { cls := .type "dict_values", data := .fields #[.ref d] }) : ObjOk P w H h p (valsO p d) :=
  ⟨⟨_, e, rfl, rfl⟩, ⟨_, e⟩, fun h1 h2 x k => let ⟨o, ho, r⟩ := x; ⟨o, k o ho, r⟩⟩
def rValuesT : V → List V → Hp → VK → Prop := fun x xs H Q => ∃ (a : Addr) (kvs : List (List L2.Key × V)), x = .ref a ∧ xs = [] ∧ H a = some (.dT kvs) ∧ ∀ p, H p = none → Q (.ref p) (upd H p (valsO p a))
/-- sorted(d.values()), the values such tuples -/
def rSortVals (K : PySem.W.Frag) : List V → Hp → VK → Prop := fun vs H Q => ∃ (p a : Addr) (kvs : List (List L2.Key × V)) (ts : List Addr) (k : Addr → List Int × Str) (m : Nat), vs = [V.ref p] ∧ H p = some (valsO p a) ∧ H a = some (.dT kvs) ∧ kvs.map (·.2) = ts.map V.ref ∧ 0 < m ∧ WdsAt K H k m ts ∧
  ∀ (ts' : List Addr) (q : Addr), ts'.Perm ts → ts'.Pairwise (fun x y => HT.lexLt (keyOf k y) (keyOf k x) = false) → H q = none → Q (.ref q) (upd H q (.lst (ts'.map V.ref)))
theorem objOk_there {P : Program} {w : World} {H : Hp} {h : Heap} {a : Addr} {o : HO} (x : ObjOk P w H h a o) : ∃ u, h.get? a = some u := by
  cases o with
  | lst xs => exact let ⟨_, _, _, _, e⟩ := x; ⟨_, e⟩
  | tup xs => exact let ⟨_, _, _, o, e, _⟩ := x; ⟨o, e⟩
  | dK kvs => exact let ⟨_, _, _, _, o, _, _, e, _⟩ := x; ⟨o, e⟩
  | dT kvs => exact let ⟨_, _, _, _, o, _, _, e, _⟩ := x; ⟨o, e⟩
  | set S n => exact let ⟨o, _, _, _, e, _⟩ := x; ⟨o, e⟩
  | ins C dx fs => exact let ⟨_, _, _, e, _⟩ := x; ⟨_, e⟩
  | own y => exact x
  | xd fs => exact let ⟨_, ⟨o, _, _, e, _⟩, _⟩ := x; ⟨o, e⟩
  | rng lo hi => exact let ⟨_, _, _, e⟩ := x; ⟨_, e⟩
  | frz ob u => exact let ⟨e, _⟩ := x; ⟨_, e⟩
  | tbl ps => exact ⟨_, x⟩
  | met f y => exact ⟨_, x⟩
  | ext φ => exact let ⟨_, e, _⟩ := x; e
section
variable {X : Cx}
theorem wds_heap {pins : List (Addr × Obj)} {σ : L2.St} {H : Hp} {s : Shared} {k : Addr → List Int × Str} {m : Nat} {ts : List Addr} (I : Inv X pins σ H s) (hx : WdsAt X.K H k m ts) :
    ∀ v ∈ ts.map Value.ref, IsWd s.heap v (k (adO v)).1 (k (adO v)).2 ∧ (k (adO v)).1.length = m := fun v hv => by
  obtain ⟨t, ht, rfl⟩ := List.mem_map.mp hv
  obtain ⟨h1, h2⟩ := hx t ht
  obtain ⟨its, r, it, _⟩ := I.tuple h1
  exact ⟨vals_wd r it, h2⟩
theorem cr_sortedWd : CallR X (.builtin "sorted") (rSortWd X.K) := by
  intro pins s σ H vs us Q I r h
  obtain ⟨a, ts, k, m, rfl, hs, hm, hx, q⟩ := h
  obtain ⟨its, rv, hl, hz⟩ := I.list hs
  rw [Vals.ref1 r]
  obtain rfl := refs_vals rv
  have hz' : (ts.map Value.ref).length ≤ sizeLine := by rw [List.length_map] at hz ⊢; exact hz
  have hw := wds_heap I hx
  refine SrtO.sorted_ord (ltVk_swo k) hl.isList hz' (fun h2 h₁ a' ha kk => ?_) fun out h1 h2 => ?_
  · refine wd_sortable (k := fun v => k (adO v)) (s := { s with heap := h₁ }) hm (by omega) (fun v hv => ⟨(hw v hv).1.keeps fun b o e _ => (kk b o e).2, (hw v hv).2⟩) fun o e => ?_
    have e' : some o = some (seqObj "list" (ts.map Value.ref).toArray 0) := e.symm.trans ha
    cases e'
    intro c
    exact absurd (Value.type.inj c) (by decide)
  · obtain ⟨ts', rfl, k2, k3⟩ := wd_out h1 h2
    obtain ⟨ep, he'⟩ := PyProof.Rows.sortedAll_at s.heap (ts.map Value.ref) (ts'.map Value.ref).toArray
    have hlen : (ts'.map V.ref).length ≤ sizeLine := by
      rw [List.length_map, k2.length_eq]
      rw [List.length_map] at hz
      exact hz
    exact ⟨.ref _, upd H (s.heap.objs.size + 1) (.lst (ts'.map V.ref)), I.laid (t' := s.toks) (fun _ _ => PyProof.Rows.sortedAll_old) (Nat.le_succ _) ⟨hlen, _, ep, vals_refs ts', he'⟩, rfl, q _ _ k2 k3 (I.hok.fresh (Nat.le_succ _))⟩
theorem mt_valuesT : MtR X "dict.values" rValuesT := by
  intro pins s σ H x xs v us Q I rx rxs h
  obtain ⟨a, kvs, rfl, rfl, ha, q⟩ := h
  cases rx
  cases rxs
  obtain ⟨z, hd, xs', rel, o, es, ep, ho, hx, hdat, _⟩ := dt_of I.hok ha
  have raw : s.heap.DictRaw a es ep := ⟨o, ho, hx, hdat⟩
  refine call_meetsIn PySem.F.slot_dict_values raw.typeIs PySem.F.entry_dict_values (PySem.F.args_dict_values_1 _) (meets_dict_values_raw a hd) ⟨⟨es, ep, raw⟩, ?_⟩
  have hf : H s.heap.objs.size = none := I.hok.fresh (Nat.le_refl _)
  exact ⟨.ref s.heap.objs.size, upd H s.heap.objs.size (valsO s.heap.objs.size a), I.laid (t' := s.toks) (fun b u e => Heap.get?_push_of_some _ e) (Nat.le_refl _) (valsO_ok (Heap.get?_push_size _ rfl)), rfl, q _ hf⟩
theorem kt_vals {H : Hp} : ∀ {kvs : List (List L2.Key × V)} {xs : List (List L2.Key × Addr × Value)}, KT H kvs xs → Vals (kvs.map (·.2)) (xs.map (·.2.2))
  | _, _, .nil => .nil
  | _, _, .cons h t => .cons h.2.2 (kt_vals t)
theorem cr_sortedVals (hc : X.calm = true) : CallR X (.builtin "sorted") (rSortVals X.K) := by
  intro pins s σ H vs us Q I r h
  obtain ⟨p, a, kvs, ts, k, m, rfl, hp, ha, ek, hm, hx, q⟩ := h
  obtain rfl := Vals.ref1 r
  have view : s.heap.IsValuesView p a := (show ObjOk X.prog X.w H s.heap p (valsO p a) from I.hok p _ hp).1
  obtain ⟨z, hd, xs', rel, dd⟩ := dt_of I.hok ha
  obtain ⟨es, ep, raw, hes, hat⟩ := dd.raw
  have hh : X.A.handled = none := I.ok.hd hc
  have lk : kvs.length = xs'.length := Paired.length rel
  have rv := kt_vals rel
  rw [ek] at rv
  have ev := refs_vals rv
  have lt : ts.length = xs'.length := by
    have e := congrArg List.length ev
    rw [List.length_map, List.length_map] at e
    exact e.symm
  have hz : xs'.length ≤ sizeLine := by rw [← lk]; exact z
  have hw := wds_heap I hx
  refine Calls.call_function_entry kind_sorted plain_sorted entry_sorted (args_sorted1 _) ?_
  unfold Builtin.«sorted»
  refine wpAny_bind (m := checkCount "sorted" 1 1 _) (wpAny_pure ?_)
  refine wpAny_bind (PySem.W.kdu_collect (A := X.A.in1) (KdlSrc.rawValues (es := es) (ep := ep)) hh ⟨view, raw⟩ (by rw [hes]; exact hz) fun h' tk acc hk hacc => ?_)
  have eacc : acc.toList = ts.map Value.ref := by
    refine List.ext_getElem? fun j => ?_
    by_cases hj : j < es.size
    · have hj2 : j < acc.size := by rw [hacc.1]; exact hj
      obtain ⟨hj3, e⟩ := hacc.2 j acc[j] (Array.getElem?_eq_getElem hj2)
      obtain ⟨y, hy, _, e2, _⟩ := hat j hj
      rw [Array.getElem?_toList, Array.getElem?_eq_getElem hj2, e, e2, ← ev, List.getElem?_map, hy] <;> rfl
    · rw [List.getElem?_eq_none (by rw [Array.length_toList, hacc.1]; omega), List.getElem?_eq_none (by rw [List.length_map]; omega)]
  rw [eacc]
  have hzt : (ts.map Value.ref).length ≤ sizeLine := by rw [List.length_map, lt]; exact hz
  refine wpAny_bind (wpAny_newList ?_ hzt)
  have hob : (h'.push (seqObj "list" (ts.map Value.ref).toArray 0)).get? h'.objs.size = some (seqObj "list" (ts.map Value.ref).toArray 0) := Heap.get?_push_size _ rfl
  have kb : ∀ b o, s.heap.get? b = some o → (h'.push (seqObj "list" (ts.map Value.ref).toArray 0)).get? b = some o := fun b o e => Heap.get?_push_of_some _ (hk b o e)
  have ne0 : ∀ b o, s.heap.get? b = some o → b ≠ h'.objs.size := fun b o e => Nat.ne_of_lt (Heap.lt_size (hk b o e))
  refine wpAny_bind (wpAny_holding (wpAny_call_entry slot_list_sort ⟨_, hob, rfl⟩ entry_list_sort
    (SrtO.list_sort_ord (ltVk_swo k) hob hzt (fun h2 => wd_sortable (k := fun v => k (adO v)) hm (by omega) (fun v hv => ⟨(hw v hv).1.keeps fun b o e _ => kb b o e, (hw v hv).2⟩) fun o e => ?_) fun out h1 h2 => ⟨_, rfl, ?_⟩) (args_list_sort _)))
  · have e' : some o = some (seqObj "list" (ts.map Value.ref).toArray 0) := e.symm.trans hob
    cases e'
    intro c
    exact absurd (Value.type.inj c) (by decide)
  · obtain ⟨ts', rfl, k2, k3⟩ := wd_out h1 h2
    obtain ⟨ep', he'⟩ := PyProof.Rows.sortedHeap_at (vs := ts.map Value.ref) (out := (ts'.map Value.ref).toArray) hob
    have hlen : (ts'.map V.ref).length ≤ sizeLine := by
      rw [List.length_map, k2.length_eq, lt]
      exact hz
    have kf : ∀ b o, s.heap.get? b = some o → (sortedHeap (h'.push (seqObj "list" (ts.map Value.ref).toArray 0)) h'.objs.size (ts.map Value.ref) (ts'.map Value.ref).toArray).get? b = some o := fun b o e =>
      (PyProof.Rows.sortedHeap_old (ne0 b o e) (Heap.lt_size (kb b o e))).trans (kb b o e)
    have nH : H h'.objs.size = none := by
      cases e : H h'.objs.size with
      | none => rfl
      | some u =>
        obtain ⟨o, ho⟩ := objOk_there (I.hok _ _ e)
        exact absurd rfl (ne0 _ o ho)
    have nS : s.heap.get? h'.objs.size = none := by
      cases e : s.heap.get? h'.objs.size with
      | none => rfl
      | some o => exact absurd rfl (ne0 _ o e)
    exact wpAny_pure ⟨_, rfl, .ref _, upd H h'.objs.size (.lst (ts'.map V.ref)), I.laidN (t' := tk) kf nS nH ⟨hlen, _, ep', vals_refs ts', he'⟩, rfl, q _ _ k2 k3 nH⟩
end
end CH
end

section
set_option Elab.async false
set_option linter.all false
set_option maxRecDepth 100000
set_option maxHeartbeats 4000000
namespace CH
open PySem PySem.Spec PyProof.Rows L2
/-! ### d.setdefault(t, x), the keys tuples -/
def tSetdT (td ty tx : TE) : TE := fun σ H Q => td σ H fun x H1 => ∃ a, x = .ref a ∧ IsD H1 a ∧ ty σ H1 fun y H2 => tx σ H2 fun z H3 => ∃ (kvs : List (List Key × V)) (k : List Key) (b : Addr), H3 a = some (.dT kvs) ∧ y = .ref b ∧ H3 b = some (.tup (k.map kV)) ∧ kvs.length < sizeLine ∧
  (∀ v, valV kvs k = some v → Q v H3) ∧ (valV kvs k = none → Q z (upd H3 a (.dT (putK kvs k z))))
section
variable {X : Cx} {pins : List (Addr × Obj)} {σ : L2.St} {H : Hp} {s : Shared} {a b : Addr} {r : Value} {d : V} {A : Around} {E : Value → Shared → Prop}
theorem t_setd {kvs : List (List Key × V)} {k : List Key} {Q : Value → Shared → Prop} (hu : A.units + 1 < cLine) (I : Inv X pins σ H s) (e : H a = some (.dT kvs)) (eb : H b = some (.tup (k.map kV))) (rd : RelV d r) (hl : kvs.length < sizeLine)
    (h1 : ∀ v, valV kvs k = some v → ∀ (w' : Value) (s' : Shared), Inv X pins σ H s' → RelV v w' → Q w' s') (h2 : valV kvs k = none → ∀ (s' : Shared), Inv X pins σ (upd H a (.dT (putK kvs k d))) s' → Q r s') :
    wpAny (model X.prog X.w) A (call (.builtin "dict.setdefault") [.ref a, .ref b, r]) Q E s := by
  obtain ⟨z, hd, xs, rel, dd⟩ := dt_of I.hok e
  have hz : xs.length ≤ sizeLine := by
    rw [← Paired.length rel]
    exact z
  have hv := rel.val k
  refine call_setdefault_heap (hsz := hz) (tupleKind_room_in1 hu) (key_of I.hok eb) hd dd (fun p hp => ?_) fun hn h' dd' hs => ?_
  · rw [hp] at hv
    cases q0 : valV kvs k with
    | none =>
      rw [q0] at hv
      exact (show False from hv).elim
    | some v0 =>
      rw [q0] at hv
      exact h1 v0 q0 _ _ (I.tok _) hv
  · rw [hn] at hv
    cases q0 : valV kvs k with
    | some v0 =>
      rw [q0] at hv
      exact (show False from hv).elim
    | none =>
      have hl2 : (putK kvs k d).length ≤ sizeLine := by
        have := length_putK kvs k d
        omega
      refine h2 q0 _ ?_
      obtain ⟨o, es, ep, ho, c2, c3, c4, _, c5⟩ := dd'
      refine d_write I (by rw [e]; exact True.intro) hs ⟨o, ho⟩ ⟨hl2, hd, _, (rel.put k eb rd).keeps fun c ys ec => ?_, o, es, ep, ho, c2, c3, c4, c5⟩
      rw [upd_ne (ne_of ec e (fun z => nomatch z))]
      exact ec
variable {o e f : Expr} {td ty tx : TE} {apos cpos : Pos}
theorem pe_setdT (hu : X.A.units + 1 < cLine) (ho : PE X o td) (he : PE X e ty) (hf : PE X f tx) (m : M2 X o "setdefault" apos e f cpos) : PE X (.Call (.Attribute o "setdefault" apos) [e, f] [] cpos) (tSetdT td ty tx) := by
  refine ⟨fun pins s σ H Q I h => ?_⟩
  refine wpAny_Call_method m.base m.few m.line PySem.F.plainAttrs_dict PySem.F.slot_dict_setdefault PySem.F.type_dict_setdefault (thn (ho.run pins s σ H _ I h) fun u s1 hx => ?_)
  obtain ⟨x, H1, I1, rx, a, rfl, d, q1⟩ := hx
  obtain rfl : u = Value.ref a := rx
  obtain ⟨t1, t2, _⟩ := isD_at I1 d
  refine ⟨t1, t2, ?_⟩
  rw [m.trees]
  refine Calls.callWith_builtin rfl (Calls.evalArgs_plain (Calls.spliced_cons (thn (he.run pins s1 σ H1 _ I1 q1) fun iv s2 hy => ?_)))
  obtain ⟨y, H2, I2, ry, q2⟩ := hy
  refine Calls.spliced_cons (thn (hf.run pins s2 σ H2 _ I2 q2) fun fv s3 hz => Calls.spliced_nil ?_)
  obtain ⟨z, H3, I3, rz, kvs, k, b, ea, rfl, eb, hl, q3, q4⟩ := hz
  obtain rfl : iv = Value.ref b := ry
  exact t_setd hu I3 ea eb rz hl (fun v hv w' s4 I4 rw' => ⟨v, _, I4, rw', q3 v hv⟩) fun hn s4 I4 => ⟨z, _, I4, rz, q4 hn⟩
/-! ### products of great numbers: together less than a hundred million bits -/
def CMulH (i j : Int) : Prop := i.natAbs.log2 + j.natAbs.log2 < 100000000
theorem CMulH.ok {i j : Int} (h : CMulH i j) : IntMulOk i j := by
  have bits : ∀ x : Int, Builtin.Int.intBits x ≤ x.natAbs.log2 + 1 := fun x => by
    unfold Builtin.Int.intBits
    split <;> omega
  have b1 := bits i
  have b2 := bits j
  have hh : i.natAbs.log2 + j.natAbs.log2 < 100000000 := h
  have line : bitsLine = 134217728 := by decide
  unfold IntMulOk
  intro z
  have big := (Bool.and_eq_true_iff.mp z).2
  unfold Builtin.Int.intTooBig at big
  have big2 := of_decide_eq_true big
  rw [line] at big2
  omega
theorem op_mulH : OpR X (binaryOp .Mult) (rI CMulH fun i j => .int (i * j)) := opI fun _ _ _ _ _ _ _ hc q => mul_int q hc.ok
theorem huge_mul {i j : Int} {a b : Nat} (ha : i.natAbs < 2 ^ a) (hb : j.natAbs < 2 ^ b) (h0 : 0 < a) (h1 : 0 < b) (h : a + b ≤ 100000000) : CMulH i j := by
  have x := PySem.Flt.log2_lt_of h0 ha
  have y := PySem.Flt.log2_lt_of h1 hb
  unfold CMulH
  omega
end
end CH
end

section
set_option Elab.async false
set_option linter.all false
set_option maxRecDepth 100000
set_option maxHeartbeats 4000000
namespace CH
open PySem PySem.Spec PyProof.Rows L2
open GxR (TabB TabG Tabbed)
/-! ### any, all of a generator expression over a tuple or a list -/
/-- the generator expression's own scope; captured names are cells of the def -/
structure GnS (sc scope : Scope) (x : Str) : Prop where
  kind : scope.kind = .function
  co : scope.isCoroutine = false
  cell : ∀ y ∈ scope.names, y.2 ≠ .cell
  dot : scope.names.lookup (".0" : Str) = some NameKind.local
  loc : scope.names.lookup x = some .local
  free : ∀ y ∈ scope.names, y.2 = .free → sc.names.lookup y.1 = some .cell ∨ sc.names.lookup y.1 = some .free
def gnSB (sc scope : Scope) (x : Str) : Bool :=
  decide (scope.kind = .function) && (!scope.isCoroutine && ((scope.names.all fun y => !decide (y.2 = .cell)) && (decide (scope.names.lookup (".0" : Str) = some NameKind.local) && (decide (scope.names.lookup x = some .local) &&
    scope.names.all fun y => !decide (y.2 = .free) || (decide (sc.names.lookup y.1 = some .cell) || decide (sc.names.lookup y.1 = some .free))))))
theorem gnS_by {sc scope : Scope} {x : Str} (h : gnSB sc scope x = true) : GnS sc scope x := by
  unfold gnSB at h
  simp only [Bool.and_eq_true, Bool.or_eq_true, Bool.not_eq_true', decide_eq_true_eq, decide_eq_false_iff_not, List.all_eq_true] at h
  obtain ⟨h1, h2, h3, h4, h5, h6⟩ := h
  refine ⟨h1, h2, fun y hy => h3 y hy, h4, h5, fun y hy e => ?_⟩
  rcases h6 y hy with z | z
  · exact absurd e z
  · exact z
theorem GnS.has {X : Cx} {scope : Scope} {x : Str} (S : GnS X.env.scope scope x) (ok : X.Ok) : ∀ y ∈ scope.names, y.2 = .free → ∃ c, X.env.cells.lookup y.1 = some c := fun y hy e => by
  rcases S.free y hy e with k | k
  · exact ok.has _ (.inl k)
  · exact ok.has _ (.inr k)
/-- a captured name's cell, in the generator's frame -/
theorem clo_look {cells : List (Str × Addr)} {names : List (Str × NameKind)} {y : Str} {c : Addr} (hy : names.lookup y = some .free) (hc : cells.lookup y = some c) : (cloFrom cells names []).lookup y = some c := by
  obtain ⟨c', e'⟩ := mem_lookup (cloFrom_has (cells := cells) (acc := []) (PySem.mem_of_lookup hy))
  rcases cloFrom_mem (PySem.mem_of_lookup e') with m | ⟨_, rfl⟩
  · exact absurd m (by simp)
  · rw [e', hc] <;> rfl
/-- the element's answers pb over the items its, wherever the objects of h (but the table at P) stand -/
def EltG (X : Cx) (scope : Scope) (x : Str) (elt : Expr) (its : List Value) (pb : Nat → Bool) (h : Heap) (P : Addr) : Prop :=
  ∀ (cenv : Env) (A' : Around) (E' : Value → Shared → Prop) (i : Nat) (v : Value) (s₂ : Shared) (m₂ : Str → Option Value), A'.handled = none → cenv.scope = scope → cenv.cells = cloFrom X.env.cells scope.names [] →
    its[i]? = some v → s₂.heap.Ns cenv.locals m₂ → m₂ x = some v → (∀ b o, b ≠ P → h.get? b = some o → s₂.heap.get? b = some o) →
    wpAny (model X.prog X.w) A' (eval elt cenv) (fun y s₃ => y = .bool (pb i) ∧ Keeps s₂ s₃) E' s₂
section
variable {X : Cx} {pins : List (Addr × Obj)} {σ : L2.St} {H : Hp} {s : Shared}
theorem keeps_id (s : Shared) : Keeps s s := ⟨s.heap, s.toks, rfl, fun _ _ e => e⟩
theorem all_passing (n : Nat) : passing (fun _ => true) n 0 = List.range n := by
  unfold passing
  simp
/-- the generator g over n items, ready to be walked in the state s5; H1: what was held before -/
def GReady (X : Cx) (pins : List (Addr × Obj)) (σ : L2.St) (H1 : Hp) (P : Addr) (n : Nat) (pb : Nat → Bool) (g : Addr) (s5 : Shared) : Prop :=
  ∃ (fp wr : List Addr) (G : Array GenState → Array GenState → Prop) (F : Nat → Value → Prop) (Sx : Nat → Shared → Prop),
    WalksS X.prog X.w X.A.in1 g fp wr G n F Sx ∧ Sx 0 s5 ∧ (∀ j y, F j y → y = .bool (pb j)) ∧
    ∀ s', Moved wr G s5 s' → ∃ H2, Tabbed P H1 H2 ∧ Inv X pins σ H2 s'
/-- what the walked thing gives: an iterator oI pushed on the heap, its walk -/
def GSrc (X : Cx) (s1 : Shared) (xv : Value) (its : List Value) : Prop :=
  ∃ (oI : Obj) (Sx : Nat → Heap → Prop) (a : Addr), a < s1.heap.objs.size ∧ (∀ vs, s1.heap.get? a ≠ some { cls := .none, data := .fields vs }) ∧
    (∀ (Q : Value → Shared → Prop) (E : Value → Shared → Prop), Q (.ref s1.heap.objs.size) { s1 with heap := s1.heap.push oI } → wpAny (model X.prog X.w) X.A (pyIter xv) Q E s1) ∧
    (∀ A' : Around, A'.handled = none → Walks X.prog X.w A' s1.heap.objs.size [s1.heap.objs.size, a] [s1.heap.objs.size] its.length (fun i v => its[i]? = some v) Sx) ∧ Sx 0 (s1.heap.push oI)
theorem gsrc_tup {s1 : Shared} {a : Addr} {its : List Value} (ht : s1.heap.IsTuple a its.toArray) : GSrc X s1 (.ref a) its := by
  have hlt : a < s1.heap.objs.size := let ⟨_, ho, _⟩ := ht; Heap.lt_size ho
  refine ⟨_, fun i h => h.IsTupleIter s1.heap.objs.size a i ∧ h.IsTuple a its.toArray, a, hlt, fun vs z => ?_, fun Q E q => wpAny_pyIter_tuple ht q, fun A' hA => ?_, ⟨⟨_, Heap.get?_push_size _ rfl, rfl, rfl⟩, ht.push _⟩⟩
  · obtain ⟨o, ho, hc, _⟩ := ht
    rw [ho] at z
    cases z
    cases hc
  have W := Walks.tuple (prog := X.prog) (w := X.w) (A := A') hA s1.heap.objs.size a (Nat.ne_of_lt hlt) its.toArray
  simpa using W
theorem gsrc_lst {s1 : Shared} {a : Addr} {its : List Value} (ht : s1.heap.IsList a its.toArray) : GSrc X s1 (.ref a) its := by
  have hlt : a < s1.heap.objs.size := let ⟨_, ho, _⟩ := ht; Heap.lt_size ho
  refine ⟨_, fun i h => h.IsListIter s1.heap.objs.size a i ∧ h.IsList a its.toArray, a, hlt, fun vs z => ?_, fun Q E q => wpAny_pyIter_list ht q, fun A' hA => ?_, ⟨⟨_, Heap.get?_push_size _ rfl, rfl, rfl⟩, ht.push _⟩⟩
  · obtain ⟨o, ho, hc, _⟩ := ht
    rw [ho] at z
    cases z
    cases hc
  have W := Walks.list (prog := X.prog) (w := X.w) (A := A') hA s1.heap.objs.size a (Nat.ne_of_lt hlt) its.toArray
  simpa using W
/-- the expression is evaluated: a generator stands ready -/
theorem gen_made {c P : Addr} {elt iter : Expr} {x : Str} {px gpos : Pos} {scope : Scope} {te : TE} {k : Nat} {Q' : Value → Shared → Prop} {R : V → Hp → Prop}
    (hr : Room k X.A) (TB : TabB X.base X.mg c P) (hcode : X.env.code = .ref c) (S : GnS X.env.scope scope x) (hi : PE X iter te)
    (hs : ∀ v, genFold iter X.env v = pure v) (I : Inv X pins σ H s) (h : te σ H R)
    (hQ : ∀ (v : V) (xv : Value) (H1 : Hp) (s1 : Shared), Inv X pins σ H1 s1 → RelV v xv → R v H1 → TabG H1 P ∧ ∃ (its : List Value) (pb : Nat → Bool), GSrc X s1 xv its ∧ EltG X scope x elt its pb s1.heap P ∧
      ∀ g s5, GReady X pins σ H1 P its.length pb g s5 → Q' (.ref g) s5) :
    wpAny (model X.prog X.w) X.A (eval (.GeneratorExp elt [⟨.Name x px, iter, [], 0⟩] scope gpos) X.env) Q' X.xe s := by
  refine wpAny_GeneratorExp_walksQ hr.hd S.co (closure_ok (S.has I.ok)) S.cell S.dot S.loc S.kind (by have := hr.dp; omega) ?_ hs
  refine thn (hi.run pins s σ H _ I h) fun xv s1 hv => ?_
  obtain ⟨v, H1, I1, r1, q1⟩ := hv
  obtain ⟨⟨ps, hP, ht⟩, its, pb, ⟨oI, Sx, a, hal, haP, hit, W, st0⟩, hel, hQ⟩ := hQ v xv H1 s1 I1 r1 q1
  refine hit _ _ ?_
  have hPs : s1.heap.get? P = some { cls := .none, data := .fields ps } := I1.hok P _ hP
  have hPlt : P < s1.heap.objs.size := Heap.lt_size hPs
  have hP2 : (s1.heap.push oI).get? P = some { cls := .none, data := .fields ps } := Heap.get?_push_of_some _ hPs
  have cd : PySem.W.CodeHd (s1.heap.push oI) c P := TB.code.keeps fun b u e => Heap.get?_push_of_some _ (I1.bk b u e)
  have lim2 : (s1.heap.push oI).NoLimit := I1.nolimit.push oI
  have sz2 : (s1.heap.push oI).objs.size = s1.heap.objs.size + 1 := Heap.size_push ..
  -- behind the code object, found or made
  have rest : ∀ (code : Value) (h3 : Heap) (tk : Nat) (ps' : Array Value), Heap.ExtBut P (s1.heap.push oI) h3 → (s1.heap.push oI).objs.size ≤ h3.objs.size → h3.get? P = some { cls := .none, data := .fields ps' } → (∃ more, ps' = ps ++ more) → TriplesOk ps'.toList →
      wpAny (model X.prog X.w) X.A (builtinsFor X.env.globals X.env.builtins) (fun bi s₄ =>
        ∃ Ia fp wr n₀ Pf St₀ pz F, Value.ref s1.heap.objs.size = .ref Ia ∧ (∀ A' : Around, A'.handled = none → Walks X.prog X.w A' Ia fp wr n₀ Pf St₀) ∧ St₀ 0 s₄.heap ∧ (∀ b ∈ fp, b < s₄.heap.objs.size) ∧ s₄.heap.NoLimit ∧ cStatics ∉ wr ∧
          (∀ href : Heap, (∀ b o, s₄.heap.get? b = some o → href.get? b = some o) →
            QuietGen X.prog X.w (genEnv scope (cloFrom X.env.cells scope.names []) s₄.heap.objs.size code bi X.env) x [] elt (List.range s₄.heap.objs.size) wr Pf pz F href) ∧
          (∀ a h₅ tk gs, gs.bare = true → s₄.heap.objs.size < a → h₅.objs.size = a + 1 → (∀ b o, s₄.heap.get? b = some o → h₅.get? b = some o) →
            WalksS X.prog X.w X.A.in4 a (a :: s₄.heap.objs.size :: List.range s₄.heap.objs.size) (s₄.heap.objs.size :: wr) (GenOnlyQ s₄.gens.size) (passing pz n₀ 0).length
              (fun j y => ∃ i, (passing pz n₀ 0)[j]? = some i ∧ F i y) (GenAt X.prog X.w X.A.in4 a s₄.gens.size s₄.heap.objs.size (List.range s₄.heap.objs.size) wr pz n₀ F) →
            GenAt X.prog X.w X.A.in4 a s₄.gens.size s₄.heap.objs.size (List.range s₄.heap.objs.size) wr pz n₀ F 0 { s₄ with gens := s₄.gens.push gs, toks := tk, heap := h₅ } →
            Q' (.ref a) { s₄ with gens := s₄.gens.push gs, toks := tk, heap := h₅ })) X.xe { s1 with heap := h3, toks := tk } := by
    intro code h3 tk ps' hx hsz hP3 hmore ht3
    obtain ⟨bm, ob, e1, e2, e3, e4, e5, e6, e7, e8⟩ := TB.bm
    have hcP : cStatics ≠ P := fun e => by
      obtain ⟨_, hns, _⟩ := I1.nolimit
      obtain ⟨o', es, ep, ho, hd, _⟩ := hns
      rw [e, hPs] at ho
      cases ho
      cases hd
    have h3s : s1.heap.objs.size < h3.objs.size := by
      rw [sz2] at hsz
      exact hsz
    have hcl : cStatics < s1.heap.objs.size := let ⟨_, hns, _⟩ := I1.nolimit; hns.lt
    have keep3 : ∀ b u, b ≠ P → s1.heap.get? b = some u → h3.get? b = some u := fun b u hb e => hx b u hb (Heap.get?_push_of_some _ e)
    refine wpAny_builtinsFor (m := X.mg) (by rw [I1.ok.glob]; exact ((I1.mod.glob.keeps I1.bk).push oI).extBut hx TB.gP) e1 e2 (keep3 _ _ e4 (I1.bk _ _ e5)) e6 e7 e8 ?_
    refine ⟨s1.heap.objs.size, [s1.heap.objs.size, a], [s1.heap.objs.size], its.length, fun i v => its[i]? = some v, Sx, (fun _ => true), (fun i y => i < its.length ∧ y = .bool (pb i)), rfl, W, ?_, fun b hb => ?_, lim2.extBut hx hcP, fun z => ?_, fun href hhref => ?_, ?_⟩
    · refine (W X.A hr.hd).frame _ _ _ st0 fun b hb u e => hx b u (fun z => ?_) e
      rcases List.mem_cons.mp hb with z2 | z2
      · exact Nat.ne_of_lt hPlt (z.symm.trans z2)
      · -- the table is no list and no tuple: the walked thing stands elsewhere
        exact haP ps (by rw [← List.mem_singleton.mp z2, z]; exact hPs)
    · rcases List.mem_cons.mp hb with z | z
      · rw [z]
        exact h3s
      · rw [List.mem_singleton.mp z]
        exact Nat.lt_trans hal h3s
    · exact Nat.ne_of_lt hcl (List.mem_singleton.mp z)
    · have back : ∀ (s₂ : Shared), (∀ b ∈ List.range h3.objs.size, b ∉ [s1.heap.objs.size] → ∀ o, href.get? b = some o → s₂.heap.get? b = some o) → ∀ b o, b ≠ P → s1.heap.get? b = some o → s₂.heap.get? b = some o := fun s₂ hk b o hb e => by
        have hlt := Heap.lt_size e
        refine hk b (List.mem_range.mpr (Nat.lt_trans hlt h3s)) (fun z => Nat.ne_of_lt hlt (List.mem_singleton.mp z)) o (hhref b o (keep3 b o hb e))
      refine ⟨fun A' E' i v s₂ m₂ hA hPv hn hm hk => ?_, fun A' E' i v s₂ m₂ hA hPv hp hn hm hk => ?_⟩
      · simp only [List.forIn_nil]
        exact wpAny_pure ⟨rfl, keeps_id _⟩
      · exact wpAny_mono (hel _ A' E' i v s₂ m₂ hA rfl rfl hPv hn hm (back s₂ hk)) (fun y s3 r => ⟨⟨(List.getElem?_eq_some_iff.mp hPv).1, r.1⟩, r.2⟩) fun _ _ e => e
    · intro g h5 tk5 gs hgb hag hsz5 hk5 W5 hat
      simp only [all_passing, List.length_range] at W5
      refine hQ g _ ⟨_, _, _, _, _, W5.in4_1, hat, fun j y hy => ?_, fun s' hm => ?_⟩
      · obtain ⟨i, hij, _, rfl⟩ := hy
        obtain ⟨hj, ej⟩ := List.getElem?_eq_some_iff.mp hij
        rw [List.getElem_range] at ej
        rw [ej]
      · obtain ⟨more, em⟩ := hmore
        have nwr : ∀ b u, s1.heap.get? b = some u → b ∉ h3.objs.size :: [s1.heap.objs.size] := fun b u e hb => by
          have hl := Heap.lt_size e
          rcases List.mem_cons.mp hb with z | z
          · rw [z] at hl
            have h9 : (h3.objs.size : Nat) < s1.heap.objs.size := hl
            omega
          · rw [List.mem_singleton.mp z] at hl
            exact Nat.lt_irrefl _ hl
        have J := GxR.inv_tab (more := more) (h' := s'.heap) (g' := s'.gens) (d' := s'.drawn) (t' := s'.toks) I1 hP (fun b u hb e => hm.heap b u (nwr b u e) (hk5 b u (keep3 b u hb e)))
          (by rw [← em]; exact hm.heap P _ (nwr P _ hPs) (hk5 P _ hP3)) (AllBare.movedS (I1.bare.push hgb) hm)
        rw [GxR.sh_eta s1 s' hm.os] at J
        exact ⟨upd H1 P (.tbl (ps ++ more)), ⟨⟨ps ++ more, upd_same, by rw [← em]; exact ht3⟩, fun b hb => upd_ne hb⟩, J⟩
  refine ⟨lim2, ?_⟩
  cases hf : codeAmong gpos ps.toList with
  | none =>
    refine wpAny_genexprCodeX hcode (cd.code hP2 ht) (cd.tab hP2) hf fun c' h' tk hx hge hlt hco' _ htab' _ => ?_
    obtain ⟨o1, vs, f1, tf, fl, tg, inF, tx, tt, op, _, _, _, _, _, _, _, _, _, htr, _⟩ := hco'
    exact rest _ h' tk _ hx (Nat.le_trans hge (Nat.le_of_lt hlt)) htab'.2 ⟨_, rfl⟩ htr
  | some cv =>
    refine wpAny_genexprCode_hit hcode (cd.code hP2 ht) hf ?_
    exact rest cv (s1.heap.push oI) s1.toks ps (Heap.ExtBut.refl _ _) (Nat.le_refl _) hP2 ⟨#[], by simp⟩ ht

/-- any(..), all(..) of such a generator: what is asked is made in R -/
def tGen (P : Addr) (K : PySem.W.Frag) (te : TE) (AN : List Bool → Bool) (AS : List V → L2.St → Hp → List Bool → Prop) : TE := fun σ H Q => te σ H fun v H1 => TabG H1 P ∧ ∃ (a : Addr) (xs : List V) (bs : List Bool), v = .ref a ∧ (SqL K H1 a xs ∨ SqT K H1 a xs) ∧ AS xs σ H1 bs ∧ bs.length = xs.length ∧ ∀ H2, Tabbed P H1 H2 → Q (.bl (AN bs)) H2
/-- the element as it is read: from what stands in the frame and the heap, over the items xs, the answers bs -/
def EltR (X : Cx) (scope : Scope) (x : Str) (elt : Expr) (AS : List V → L2.St → Hp → List Bool → Prop) : Prop :=
  ∀ (pins : List (Addr × Obj)) (σ : L2.St) (H : Hp) (s : Shared) (xs : List V) (its : List Value) (bs : List Bool) (P : Addr), Inv X pins σ H s → Vals xs its → AS xs σ H bs → (∃ ps, H P = some (.tbl ps)) → bs.length = xs.length → EltG X scope x elt its (fun i => bs.getD i false) s.heap P
theorem range_all (bs : List Bool) : (List.range bs.length).all (fun i => bs.getD i false) = bs.all id := by
  rw [Bool.eq_iff_iff, List.all_eq_true, List.all_eq_true]
  constructor
  · intro h b hb
    obtain ⟨j, hj, e⟩ := List.getElem_of_mem hb
    have q := h j (List.mem_range.mpr hj)
    rw [List.getD_eq_getElem?_getD, List.getElem?_eq_getElem hj, e] at q
    exact q
  · intro h j hj
    have hj' := List.mem_range.mp hj
    rw [List.getD_eq_getElem?_getD, List.getElem?_eq_getElem hj']
    exact h _ (List.getElem_mem hj')
theorem range_any (bs : List Bool) : (List.range bs.length).any (fun i => bs.getD i false) = bs.any id := by
  rw [Bool.eq_iff_iff, List.any_eq_true, List.any_eq_true]
  constructor
  · intro ⟨j, hj, h⟩
    have hj' := List.mem_range.mp hj
    rw [List.getD_eq_getElem?_getD, List.getElem?_eq_getElem hj'] at h
    exact ⟨bs[j], List.getElem_mem hj', h⟩
  · intro ⟨b, hb, h⟩
    obtain ⟨j, hj, e⟩ := List.getElem_of_mem hb
    refine ⟨j, List.mem_range.mpr hj, ?_⟩
    rw [List.getD_eq_getElem?_getD, List.getElem?_eq_getElem hj, e]
    exact h
theorem gen_read {c P : Addr} {elt iter : Expr} {x : Str} {px gpos : Pos} {scope : Scope} {te : TE} {k : Nat} {AN : List Bool → Bool} {AS : List V → L2.St → Hp → List Bool → Prop} {Q : VK} {Q' : Value → Shared → Prop}
    (hr : Room k X.A) (TB : TabB X.base X.mg c P) (hcode : X.env.code = .ref c) (S : GnS X.env.scope scope x) (hi : PE X iter te) (hel : EltR X scope x elt AS)
    (hs : ∀ v, genFold iter X.env v = pure v) (I : Inv X pins σ H s) (h : tGen P X.K te AN AS σ H Q)
    (hQ : ∀ (bs : List Bool) (H1 : Hp) g s5, (∀ H2, Tabbed P H1 H2 → Q (.bl (AN bs)) H2) → GReady X pins σ H1 P bs.length (fun i => bs.getD i false) g s5 → Q' (.ref g) s5) :
    wpAny (model X.prog X.w) X.A (eval (.GeneratorExp elt [⟨.Name x px, iter, [], 0⟩] scope gpos) X.env) Q' X.xe s := by
  refine gen_made hr TB hcode S hi hs I h fun v xv H1 s1 I1 rv q => ?_
  obtain ⟨tg, a, xs, bs, rfl, hq, ha, hl, q⟩ := q
  obtain rfl : xv = Value.ref a := rv
  have tg' := tg
  obtain ⟨ps, hP, _⟩ := tg'
  refine ⟨tg, ?_⟩
  rcases hq with hq | hq
  · obtain ⟨its, r, pl, _⟩ := I1.list hq
    refine ⟨its, _, gsrc_lst pl.isList, hel pins σ H1 s1 xs its bs P I1 r ha ⟨ps, hP⟩ hl, fun g s5 gr => hQ bs H1 g s5 q ?_⟩
    rw [hl, r.length]
    exact gr
  · obtain ⟨its, r, pl, _⟩ := I1.tuple hq
    refine ⟨its, _, gsrc_tup (show s1.heap.IsTuple a its.toArray from pl), hel pins σ H1 s1 xs its bs P I1 r ha ⟨ps, hP⟩ hl, fun g s5 gr => hQ bs H1 g s5 q ?_⟩
    rw [hl, r.length]
    exact gr
theorem gtruth {A : Around} {F : Nat → Value → Prop} {bs : List Bool} (h : ∀ j y, F j y → y = .bool (bs.getD j false)) : TruthOf X.prog X.w A F (fun i => bs.getD i false) := fun j y sj Qj Ej hy hq => by
  rw [h j y hy]
  exact wpAny_truthy_bool hq
theorem pe_allG {c P : Addr} {elt iter : Expr} {x : Str} {px p pos gpos : Pos} {scope : Scope} {te : TE} {k : Nat} {AS : List V → L2.St → Hp → List Bool → Prop}
    (hr : Room k X.A) (hg : Gl X "all") (hm : X.mg "all" = none) (hb : bootBuiltins "all" = some (.builtin "all")) (TB : TabB X.base X.mg c P) (hcode : X.env.code = .ref c) (S : GnS X.env.scope scope x) (hi : PE X iter te) (hel : EltR X scope x elt AS)
    (hs : ∀ v, genFold iter X.env v = pure v)
    (he : starEach [.GeneratorExp elt [⟨.Name x px, iter, [], 0⟩] scope gpos] X.env = (false, eval (.GeneratorExp elt [⟨.Name x px, iter, [], 0⟩] scope gpos) X.env) :: starEach [] X.env := by rfl) :
    PE X (.Call (.Name "all" p) [.GeneratorExp elt [⟨.Name x px, iter, [], 0⟩] scope gpos] [] pos) (tGen P X.K te (fun bs => bs.all id) AS) := by
  refine ⟨fun pins s σ H Q I h => ?_⟩
  refine wpAny_Call_Name_kw (ld_blt I hg hm hb ?_)
  refine PyProof.Rows.callWith_builtin1 ?_ he (by rfl)
  rw [he]
  show wpAny _ _ (spliced ((false, eval (.GeneratorExp elt [⟨.Name x px, iter, [], 0⟩] scope gpos) X.env) :: backTo pos (starEach [] X.env))) _ _ s
  refine Calls.spliced_cons (gen_read hr TB hcode S hi hel hs I h fun bs H1 g s5 hR hG => ?_)
  obtain ⟨fp, wr, G, F, Sx, W, hst, htr, hI⟩ := hG
  refine Calls.spliced_nil ?_
  refine call_all_walkS (W.self 0 _ _ _ hst ⟨g, fp, wr, G, _, F, Sx, _, rfl, W, hst, gtruth htr, fun s' hmv => ?_⟩)
  obtain ⟨H2, hT, J⟩ := hI s' hmv
  refine ⟨.bl _, H2, J, rfl, ?_⟩
  rw [range_all bs]
  exact hR H2 hT
theorem pe_anyG {c P : Addr} {elt iter : Expr} {x : Str} {px p pos gpos : Pos} {scope : Scope} {te : TE} {k : Nat} {AS : List V → L2.St → Hp → List Bool → Prop}
    (hr : Room k X.A) (hg : Gl X "any") (hm : X.mg "any" = none) (hb : bootBuiltins "any" = some (.builtin "any")) (TB : TabB X.base X.mg c P) (hcode : X.env.code = .ref c) (S : GnS X.env.scope scope x) (hi : PE X iter te) (hel : EltR X scope x elt AS)
    (hs : ∀ v, genFold iter X.env v = pure v)
    (he : starEach [.GeneratorExp elt [⟨.Name x px, iter, [], 0⟩] scope gpos] X.env = (false, eval (.GeneratorExp elt [⟨.Name x px, iter, [], 0⟩] scope gpos) X.env) :: starEach [] X.env := by rfl) :
    PE X (.Call (.Name "any" p) [.GeneratorExp elt [⟨.Name x px, iter, [], 0⟩] scope gpos] [] pos) (tGen P X.K te (fun bs => bs.any id) AS) := by
  refine ⟨fun pins s σ H Q I h => ?_⟩
  refine wpAny_Call_Name_kw (ld_blt I hg hm hb ?_)
  refine PyProof.Rows.callWith_builtin1 ?_ he (by rfl)
  rw [he]
  show wpAny _ _ (spliced ((false, eval (.GeneratorExp elt [⟨.Name x px, iter, [], 0⟩] scope gpos) X.env) :: backTo pos (starEach [] X.env))) _ _ s
  refine Calls.spliced_cons (gen_read hr TB hcode S hi hel hs I h fun bs H1 g s5 hR hG => ?_)
  obtain ⟨fp, wr, G, F, Sx, W, hst, htr, hI⟩ := hG
  refine Calls.spliced_nil ?_
  refine call_any_walkS (W.self 0 _ _ _ hst ⟨g, fp, wr, G, _, F, Sx, _, rfl, W, hst, gtruth htr, fun s' hmv => ?_⟩)
  obtain ⟨H2, hT, J⟩ := hI s' hmv
  refine ⟨.bl _, H2, J, rfl, ?_⟩
  rw [range_any bs]
  exact hR H2 hT
/-- the element x in y, y a captured name (slot j) -/
def AsIn (K : PySem.W.Frag) (j : Nat) : List V → L2.St → Hp → List Bool → Prop := fun xs σ H bs => ∃ (b : Addr) (ys : List V), σ[j]? = some (some (.ref b)) ∧ (SqL K H b ys ∨ SqT K H b ys) ∧ xs.all flatV = true ∧ ys.all flatV = true ∧ bs = xs.map fun x => inV x ys
theorem elt_in {scope : Scope} {x y : Str} {j : Nat} {p1 p2 p3 : Pos} (S : GnS X.env.scope scope x) (hN : X.N[j]? = some y) (hy : scope.names.lookup y = some .free) (hc : X.env.scope.names.lookup y = some .cell)
    (hd : (x == ("__debug__" : Str)) = false := by decide) (hd2 : (y == ("__debug__" : Str)) = false := by decide) (hcd : (y == ("__classdict__" : Str)) = false := by decide) : EltR X scope x (.Compare (.Name x p1) [.In] [.Name y p2] p3) (AsIn X.K j) := by
  intro pins σ H s xs its bs P I rv hA hP hl cenv A' E' i v s₂ m₂ hAh hsc hcl hi hn hm hk
  obtain ⟨b, ys, hj, hq, fx, fy, rfl⟩ := hA
  obtain ⟨ps, hP⟩ := hP
  have hPs : s.heap.get? P = some { cls := .none, data := .fields ps } := I.hok P _ hP
  obtain ⟨mm, _, hloc⟩ := I.loc
  obtain ⟨u, ru, lk⟩ := hloc j y (.ref b) hN hj (.inr (.inl hc))
  obtain rfl : u = Value.ref b := ru
  obtain ⟨c, hcc, hcell⟩ : ∃ c, X.env.cells.lookup y = some c ∧ s.heap.IsCell c (some (.ref b)) := by
    rcases lk with ⟨z, _⟩ | ⟨_, z⟩
    · have z2 : X.env.scope.names.lookup y = some .local := z
      rw [hc] at z2
      cases z2
    · exact z
  have hlook : cenv.cells.lookup y = some c := by rw [hcl]; exact clo_look hy hcc
  have hcell2 : s₂.heap.IsCell c (some (.ref b)) := by
    obtain ⟨o, ho, hd⟩ := hcell
    refine ⟨o, hk c o (fun z => ?_) ho, hd⟩
    rw [z, hPs] at ho
    cases ho
    cases hd
  have hkind : cenv.scope.kind = .function := by rw [hsc]; exact S.kind
  refine wpAny_Compare1 ?_
  refine wpAny_Name (wpAny_loadName_local hkind (show cenv.scope.names.lookup x = some .local by rw [hsc]; exact S.loc) hn hm ?_) hd
  refine wpAny_Name (wpAny_loadName_free hkind (show cenv.scope.names.lookup y = some .free by rw [hsc]; exact hy) hlook hcell2 ?_ hcd) hd2
  -- the item
  obtain ⟨z, hz, rz⟩ : ∃ z, xs[i]? = some z ∧ RelV z v := by
    have hlt : i < its.length := (List.getElem?_eq_some_iff.mp hi).1
    have hlt2 : i < xs.length := by rw [rv.length]; exact hlt
    obtain ⟨w, e1, e2⟩ := rv.get (List.getElem?_eq_getElem hlt2)
    rw [hi] at e1
    cases e1
    exact ⟨_, List.getElem?_eq_getElem hlt2, e2⟩
  have fz : flatV z = true := List.all_eq_true.mp fx z (List.mem_of_getElem? hz)
  have eb : (xs.map fun x => inV x ys).getD i false = inV z ys := by
    rw [List.getD_eq_getElem?_getD, List.getElem?_map, hz] <;> rfl
  rcases hq with hq | hq
  · obtain ⟨js, r, pl, _⟩ := I.list hq
    have pl2 : s₂.heap.IsList b js.toArray := by
      obtain ⟨o, ho, ha, hb⟩ := pl.isList
      exact ⟨o, hk b o (fun z => by rw [z, hPs] at ho; cases ho; cases ha) ho, ha, hb⟩
    refine SeqAt.in_listAt (eqU z) pl2 (fun w hw => mem_eqAt rz fz r fy w (by simpa using hw)) ⟨?_, keeps_id _⟩
    rw [show js.toArray.any (eqU z) = js.any (eqU z) by simp, any_eqU r fy]
    exact congrArg Value.bool eb.symm
  · obtain ⟨js, r, pl, _⟩ := I.tuple hq
    have pl2 : s₂.heap.IsTuple b js.toArray := by
      obtain ⟨o, ho, ha, hb⟩ := (show s.heap.IsTuple b js.toArray from pl)
      exact ⟨o, hk b o (fun z => by rw [z, hPs] at ho; cases ho; cases ha) ho, ha, hb⟩
    refine SeqAt.in_tupleAt (eqU z) pl2 (fun w hw => mem_eqAt rz fz r fy w (by simpa using hw)) ⟨?_, keeps_id _⟩
    rw [show js.toArray.any (eqU z) = js.any (eqU z) by simp, any_eqU r fy]
    exact congrArg Value.bool eb.symm
end
end CH
end

section
set_option Elab.async false
set_option linter.all false
set_option maxRecDepth 100000
set_option maxHeartbeats 4000000
namespace CH
open PySem PySem.Spec PyProof.Rows L2
open GxR (TabB TabG Tabbed)
/-! ### what stays: all but the tables, which stay tables -/
structure Kx (H H' : Hp) : Prop where
  o : ∀ b u, H b = some u → (∀ ps, u ≠ .tbl ps) → H' b = some u
  g : ∀ P, TabG H P → TabG H' P
  f : ∀ b, H' b = none → H b = none
theorem Kx.refl (H : Hp) : Kx H H := ⟨fun _ _ h _ => h, fun _ h => h, fun _ h => h⟩
theorem Kx.trans {H H1 H2 : Hp} (a : Kx H H1) (b : Kx H1 H2) : Kx H H2 := ⟨fun c u h n => b.o c u (a.o c u h n) n, fun P h => b.g P (a.g P h), fun c h => a.f c (b.f c h)⟩
theorem Kx.rd {H H' : Hp} {a : Addr} {u : HO} (k : Kx H H') (n : ∀ ps, u ≠ .tbl ps) (h : Rd H a u) : Rd H' a u := by
  rcases h with h | ⟨o, h⟩
  · exact .inl (k.o _ _ h n)
  · exact .inr ⟨o, k.o _ _ h fun ps z => nomatch z⟩
theorem Kx.l {K : PySem.W.Frag} {H H' : Hp} {a : Addr} {xs : List V} (k : Kx H H') (h : SqL K H a xs) : SqL K H' a xs := by
  rcases h with h | h
  · exact .inl (k.rd (fun ps z => nomatch z) h)
  · exact .inr h
theorem Kx.t {K : PySem.W.Frag} {H H' : Hp} {a : Addr} {xs : List V} (k : Kx H H') (h : SqT K H a xs) : SqT K H' a xs := by
  rcases h with h | h
  · exact .inl (k.rd (fun ps z => nomatch z) h)
  · exact .inr h
theorem Kx.lst {H H' : Hp} {a : Addr} {xs : List V} (k : Kx H H') (h : H a = some (.lst xs)) : H' a = some (.lst xs) := k.o _ _ h fun ps z => nomatch z
theorem Kx.tup {H H' : Hp} {a : Addr} {xs : List V} (k : Kx H H') (h : H a = some (.tup xs)) : H' a = some (.tup xs) := k.o _ _ h fun ps z => nomatch z
theorem Kx.dt {H H' : Hp} {a : Addr} {kvs : List (List Key × V)} (k : Kx H H') (h : H a = some (.dT kvs)) : H' a = some (.dT kvs) := k.o _ _ h fun ps z => nomatch z
/-- a new object -/
theorem Kx.new {H : Hp} {p : Addr} {u : HO} (h : H p = none) : Kx H (upd H p u) := by
  refine ⟨fun b v e _ => ?_, fun P t => ?_, fun b e => ?_⟩
  · rw [upd_ne (ne_of_none e h)]
    exact e
  · obtain ⟨ps, e, t⟩ := t
    exact ⟨ps, by rw [upd_ne (ne_of_none e h)]; exact e, t⟩
  · by_cases hb : b = p
    · rw [hb, upd_same] at e
      cases e
    · rw [upd_ne hb] at e
      exact e
/-- an object that was not there ahead is changed -/
theorem Kx.mut {H H' : Hp} {p : Addr} {u : HO} (k : Kx H H') (h : H p = none) : Kx H (upd H' p u) := by
  refine ⟨fun b v e n => ?_, fun P t => ?_, fun b e => ?_⟩
  · rw [upd_ne (ne_of_none e h)]
    exact k.o b v e n
  · obtain ⟨ps, e, t1⟩ := t
    obtain ⟨qs, e2, t2⟩ := k.g P ⟨ps, e, t1⟩
    exact ⟨qs, by rw [upd_ne (ne_of_none e h)]; exact e2, t2⟩
  · by_cases hb : b = p
    · rw [hb, upd_same] at e
      cases e
    · rw [upd_ne hb] at e
      exact k.f b e
/-- the table at P has grown -/
theorem Kx.tab {H H' : Hp} {P : Addr} (t : TabG H P) (h : Tabbed P H H') : Kx H H' := by
  obtain ⟨ps, e, tr⟩ := t
  refine ⟨fun b u hb n => ?_, fun Q tq => ?_, fun b hb => ?_⟩
  · have nb : b ≠ P := fun z => n ps (Option.some.inj (hb.symm.trans (by rw [z]; exact e)))
    rw [h.2 b nb]
    exact hb
  · by_cases hq : Q = P
    · rw [hq]
      exact h.1
    · obtain ⟨qs, e2, t2⟩ := tq
      exact ⟨qs, by rw [h.2 Q hq]; exact e2, t2⟩
  · by_cases hq : b = P
    · obtain ⟨⟨qs, e2, _⟩, _⟩ := h
      rw [hq, e2] at hb
      cases hb
    · rw [h.2 b hq] at hb
      exact hb
theorem sq_of {K : PySem.W.Frag} {H : Hp} {a : Addr} {xs : List V} (h : H a = some (.lst xs)) : SqL K H a xs := .inl (.inl h)
theorem st_of {K : PySem.W.Frag} {H : Hp} {a : Addr} {xs : List V} (h : H a = some (.tup xs)) : SqT K H a xs := .inl (.inl h)
/-! ### a value's type -/
theorem tyx_tup {K : PySem.W.Frag} {H : Hp} {a : Addr} {xs : List V} (h : SqT K H a xs) : TyX K H (.ref a) (.type "tuple") := by
  rcases h with (h | ⟨o, h⟩) | ⟨o, _, _, h, c, _⟩
  · exact .base (.tup h)
  · exact .fTuple h
  · exact .kTuple h c
theorem tyx_lst {K : PySem.W.Frag} {H : Hp} {a : Addr} {xs : List V} (h : SqL K H a xs) : TyX K H (.ref a) (.type "list") := by
  rcases h with (h | ⟨o, h⟩) | ⟨o, _, _, h, c, _⟩
  · exact .base (.lst h)
  · exact .base (.frz h)
  · exact .kList h c
/-! ### a def of the head, called by its name -/
abbrev FnT (K : PySem.W.Frag) (x : Str) (st : Stmt) (f : Addr) (fd : FuncData) : Prop := FunD K x x (defArgs st) (defBody st) (defScope st) [] [] f fd
section
variable {P : Program} {w : World} {K : PySem.W.Frag} {mg : Str → Option Value} {base : Heap}
/-- what the head says of a def: its object, its place, its code object -/
structure DefT (K : PySem.W.Frag) (mg : Str → Option Value) (x : Str) (st : Stmt) (c : Addr) : Prop where
  ex : ∃ (f : Addr) (fd : FuncData), FnT K x st f fd ∧ mg x = some (.ref f) ∧ ∀ oc od osl fd', K.lookup f = some ⟨oc, od, .func fd', osl⟩ → fd'.code = .ref c
theorem cal_of {x : Str} {st : Stmt} {c : Addr} {N ps : List Str} {k : Nat} {sp : Sp} (D : DefT K mg x st c) (S : FnScope N ps (defScope st))
    (hb : ∀ (kV doc pm : Value) (an : Option Addr) (cdv ct : Value) (us : List Value), us.length = ps.length → bindArgs (PySem.W.fnOf x x (defArgs st) (defBody st) (defScope st) .none kV doc pm an cdv ct) ⟨us, []⟩ = pure (ps.zip us))
    (len : ∀ vs H Q E, sp vs H Q E → vs.length = ps.length)
    (hbody : ∀ (f : Addr) (A : Around) (outer : List Env) (s : Shared) (H : Hp) (vs : List V) (Q : VK) (E : XK), Room k (A.deeper (envOfC x (defScope st) s.heap.objs.size f (.ref c))) → sp vs H Q E →
      ∃ t, PSs (cxOf CX0 P w K mg base N x (defScope st) f (.ref c) A outer s H E).nox (defBody st) t ∧ t { nx := fun _ H' => Q .non H', rt := Q } (start N vs) H) : C8.Cal P w K mg base (k + 1) x sp [] := by
  obtain ⟨f, fd, F, hm, hc⟩ := D.ex
  refine ⟨f, fd, ps, [], ?_, hm, F.kp, FunD.bindsN F hb, .nil⟩
  obtain ⟨oc, od, dV, kV, doc, pm, an, cdv, ct, osl, rfl, lk, hcd, _, _⟩ := F.ex
  obtain rfl : cdv = .ref c := hc _ _ _ _ lk
  refine fn_of lk hcd S len fun A outer s H vs Q E hr hsp => ?_
  obtain ⟨t, h, q⟩ := hbody f A outer s H vs Q E hr hsp
  exact ⟨t, h.nox, q⟩
end
/-! ### small steps -/
theorem iteB {b : Bool} {A B : Prop} (h1 : b = true → A) (h2 : b = false → B) : if b = true then A else B := by
  cases b with
  | true => exact iteT (h1 rfl)
  | false => exact iteF (h2 rfl)
theorem small80 {n : Nat} (h : n ≤ 100000) : n ≤ sizeLine := Nat.le_trans h (by decide)
theorem lt80 {n : Nat} (h : n < 100000) : n < sizeLine := Nat.lt_of_lt_of_le h (by decide)
end CH
end

section
set_option Elab.async false
set_option linter.all false
set_option maxRecDepth 100000
set_option maxHeartbeats 4000000
/-! defs that may raise -/
namespace CH
open PySem PySem.Spec PyProof.Rows L2
section
variable {P : Program} {w : World} {K : PySem.W.Frag} {mg : Str → Option Value} {base : Heap}
/-- a def that may be called by its name, and may raise -/
structure CalX (P : Program) (w : World) (K : PySem.W.Frag) (mg : Str → Option Value) (base : Heap) (k : Nat) (x : Str) (sp : Sp) : Prop where
  ex : ∃ (f : Addr) (fd : FuncData) (ps : List Str), FnOk P w K mg base (L2.CX P w) k f fd ps sp ∧ mg x = some (.ref f) ∧ PySem.W.keepIn K (.ref f) = true ∧ Binds K fd ps []
theorem calX_of {x : Str} {st : Stmt} {c : Addr} {N ps : List Str} {k : Nat} {sp : Sp} (D : DefT K mg x st c) (S : FnScope N ps (defScope st))
    (hb : ∀ (kV doc pm : Value) (an : Option Addr) (cdv ct : Value) (us : List Value), us.length = ps.length → bindArgs (PySem.W.fnOf x x (defArgs st) (defBody st) (defScope st) .none kV doc pm an cdv ct) ⟨us, []⟩ = pure (ps.zip us))
    (len : ∀ vs H Q E, sp vs H Q E → vs.length = ps.length)
    (hbody : ∀ (f : Addr) (A : Around) (outer : List Env) (s : Shared) (H : Hp) (vs : List V) (Q : VK) (E : XK), Room k (A.deeper (envOfC x (defScope st) s.heap.objs.size f (.ref c))) → sp vs H Q E →
      ∃ t, PSs (cxOf (L2.CX P w) P w K mg base N x (defScope st) f (.ref c) A outer s H E) (defBody st) t ∧ t { nx := fun _ H' => Q .non H', rt := Q } (start N vs) H) : CalX P w K mg base (k + 1) x sp := by
  obtain ⟨f, fd, F, hm, hc⟩ := D.ex
  refine ⟨f, fd, ps, ?_, hm, F.kp, FunD.bindsN F hb⟩
  obtain ⟨oc, od, dV, kV, doc, pm, an, cdv, ct, osl, rfl, lk, hcd, _, _⟩ := F.ex
  obtain rfl : cdv = .ref c := hc _ _ _ _ lk
  exact fn_of lk hcd S len fun A outer s H vs Q E hr hsp => hbody f A outer s H vs Q E hr hsp
theorem cx_e0 {outer : List Env} {H : Hp} {s s' : Shared} {e : Value} (h : L2.CX P w outer H s C8.E0 e s') : False := by
  obtain ⟨_, _, _, _, _, _, _, _, _, _, _, _, z⟩ := h
  exact z
/-- .. where it does not raise -/
theorem CalX.cal {k : Nat} {x : Str} {sp sp' : Sp} (c : CalX P w K mg base k x sp) (h : ∀ vs H Q E, sp' vs H Q E → sp vs H Q C8.E0) : C8.Cal P w K mg base k x sp' [] := by
  obtain ⟨f, fd, ps, F, hm, kp, b⟩ := c.ex
  refine ⟨f, fd, ps, [], ⟨fun vs H Q E q => F.len vs H Q _ (h _ _ _ _ q), fun A outer s H args us vs Q E hr he hb hv hs => ?_⟩, hm, kp, b, .nil⟩
  refine codeAny_mono (F.run A outer s H args us vs Q C8.E0 hr he hb hv (h _ _ _ _ hs)) fun r s' q => ?_
  cases r with
  | ok f => cases f <;> exact q
  | error e => exact (cx_e0 q).elim
end
section
variable {X : Cx} {k j : Nat} {x : Str} {sp : Sp} {p pos : Pos} {e : Expr} {es : List Expr} {t : TA} {E : XK} {W : WX}
theorem pe_c0 {dvs : List V} (c : C8.Cal X.prog X.w X.K X.mg X.base k x sp dvs) (hr : Room j X.A) (hk : k ≤ j) (hg : Gl X x) (hdb : (x == ("__debug__" : Str)) = false := by decide) : PE X (.Call (.Name x p) [] [] pos) (tCall sp dvs C8.E0 tNil) := by
  obtain ⟨f, fd, ps, ds, F, hm, kp, b, d⟩ := c.ex
  exact pe_call0 F (hr.mono hk) hg hm kp b d C8.pass0 hdb
/-- a call; what it raises leaves the def -/
theorem pe_cX (c : CalX X.prog X.w X.K X.mg X.base k x sp) (hr : Room j X.A) (hk : k ≤ j) (hg : Gl X x) (tk : Takes X (fun cls d _ H => E cls d H)) (ha : PA X (e :: es) t)
    (hdb : (x == ("__debug__" : Str)) = false := by decide) (he : starEach (e :: es) X.env = (false, eval e X.env) :: starEach es X.env := by rfl) (hpl : (backTo pos (starEach es X.env)).any (·.1) = false := by rfl) :
    PE X (.Call (.Name x p) (e :: es) [] pos) (tCall sp [] E t) := by
  obtain ⟨f, fd, ps, F, hm, kp, b⟩ := c.ex
  exact pe_call F (hr.mono hk) hg hm kp b .nil (passes_call tk fun _ _ _ _ h => h) ha hdb he hpl
/-- .. what it raises goes to the try around -/
theorem pe_cS (c : CalX X.prog X.w X.K X.mg X.base k x sp) (hr : Room j X.A) (hk : k ≤ j) (hg : Gl X x) (tk : Takes X W) (ha : PA X (e :: es) t)
    (hdb : (x == ("__debug__" : Str)) = false := by decide) (he : starEach (e :: es) X.env = (false, eval e X.env) :: starEach es X.env := by rfl) (hpl : (backTo pos (starEach es X.env)).any (·.1) = false := by rfl) :
    PE X (.Call (.Name x p) (e :: es) [] pos) (tCallS sp (WE W) t) := by
  obtain ⟨f, fd, ps, F, hm, kp, b⟩ := c.ex
  exact pe_callS F (hr.mono hk) hg hm kp b (fun σ => passAt tk σ) ha hdb he hpl
/-- the suite of a clause, by the error's own class -/
theorem pss_exc {K : PySem.W.Frag} {ss : List Stmt} {cls : Value} {d : Option Addr} {t : Addr → TS} (h : ∀ D0, cls = .ref D0 → d = none → ExcC K D0 → PSs X ss (t D0)) : PSs X ss (fun D σ H => ∃ D0, cls = .ref D0 ∧ d = none ∧ ExcC K D0 ∧ t D0 D σ H) :=
  ⟨fun pins s σ H D I q => by
    obtain ⟨D0, e1, e2, C, q⟩ := q
    exact (h D0 e1 e2 C).run pins s σ H D I q⟩
end
theorem call_isE1 {K : PySem.W.Frag} {X : Cx} {a D0 : Addr} {oe : Obj} {pn : List (Addr × Obj)} {cls : Value} {d : Option Addr} (C : ExcC K D0) (hz : Zc cls d oe) (hf : ∃ vs, oe.data = .fields vs) (ec : cls = .ref D0) (ed : d = none) (hK : X.K = K := by rfl) : CallR (X.suite a ((a, oe) :: pn)) (.builtin "isinstance") (rIsE K D0 a) := by
  subst ec ed
  subst hK
  exact call_isE C hz hf
/-- an own class of errors -/
structure Exn (K : PySem.W.Frag) (mg : Str → Option Value) (x : Str) (C : Addr) : Prop where
  g : mg x = some (.ref C)
  q : PySem.W.excIn K C [.type "ValueError", .type "Exception", .type "BaseException", .type "object"] "ValueError.__new__" = true
  k : PySem.W.keepIn K (.ref C) = true
  b : PySem.W.subIn K (.ref C) (.type "BaseException") = some true
  t : PySem.W.typeIn K (.ref C) = some (.type "type")
  c : ExcC K C
theorem Exn.cv {K : PySem.W.Frag} {mg : Str → Option Value} {x : Str} {C : Addr} (e : Exn K mg x C) : ∃ u, mg x = some u ∧ RelV (.ref C) u := ⟨_, e.g, rfl⟩
/-- no test stands -/
theorem yesT {σ : L2.St} {H : Hp} {A B : Hp → Prop} (h : A H) : tYes σ H fun b H3 => if b = true then A H3 else B H3 := by
  show if true = true then A H else B H
  rw [if_pos rfl]
  exact h
end CH
end

section
set_option Elab.async false
set_option linter.all false
set_option maxRecDepth 100000
set_option maxHeartbeats 4000000
/-! how many unlike ones a list of whole numbers has -/
namespace CH
open PySem PySem.Spec PyProof.Rows L2
def rLenK (K : PySem.W.Frag) : List V → Hp → VK → Prop := fun xs H Q => ∃ p ys, xs = [V.ref p] ∧ (SqL K H p ys ∨ SqT K H p ys) ∧ Q (.int ys.length) H
/-- the first i of ns, each once -/
def met (ns : List Int) (i : Nat) : List Int := firstMet (fun j => ns.getD j 0) i
theorem met_succ (ns : List Int) (i : Nat) : met ns (i + 1) = if (met ns i).any (· == ns.getD i 0) then met ns i else met ns i ++ [ns.getD i 0] := firstMet_succ _ _
theorem met_spec {ns : List Int} : ∀ i, i ≤ ns.length → (∀ x, x ∈ met ns i ↔ x ∈ ns.take i) ∧ (met ns i).length ≤ i ∧ ((met ns i).length = i ↔ (ns.take i).Nodup)
  | 0, _ => ⟨fun x => by rw [List.take_zero]; exact Iff.rfl, Nat.le_refl 0, ⟨fun _ => by rw [List.take_zero]; exact List.Pairwise.nil, fun _ => rfl⟩⟩
  | i + 1, hi => by
    have hlt : i < ns.length := hi
    obtain ⟨m1, m2, m3⟩ := met_spec i (Nat.le_of_lt hlt)
    have e1 : ns.getD i 0 = ns[i] := by
      rw [List.getD_eq_getElem?_getD, List.getElem?_eq_getElem hlt] <;> rfl
    have e2 : ns.take (i + 1) = ns.take i ++ [ns[i]] := by
      rw [List.take_add_one, List.getElem?_eq_getElem hlt] <;> rfl
    rw [met_succ, e1, e2]
    by_cases h : ns[i] ∈ ns.take i
    · have a : ((met ns i).any (· == ns[i])) = true := List.any_eq_true.mpr ⟨ns[i], (m1 _).mpr h, by simp⟩
      rw [if_pos a]
      refine ⟨fun x => ?_, by omega, ⟨fun z => ?_, fun z => ?_⟩⟩
      · rw [m1 x, List.mem_append, List.mem_singleton]
        exact ⟨.inl, fun z => z.elim id fun e => e ▸ h⟩
      · omega
      · obtain ⟨_, _, z⟩ := List.pairwise_append.mp z
        exact absurd rfl (z _ h _ (by simp))
    · have a : ¬ ((met ns i).any (· == ns[i])) = true := fun z => by
        obtain ⟨y, hy, ey⟩ := List.any_eq_true.mp z
        rw [eq_of_beq ey] at hy
        exact h ((m1 _).mp hy)
      rw [if_neg a]
      refine ⟨fun x => ?_, by rw [List.length_append]; show _ + 1 ≤ _; omega, ?_⟩
      · rw [List.mem_append, List.mem_append, m1 x]
      · rw [List.length_append]
        show (met ns i).length + 1 = i + 1 ↔ _
        constructor
        · intro z
          refine List.pairwise_append.mpr ⟨m3.mp (by omega), List.pairwise_singleton _ _, fun x hx y hy e => ?_⟩
          rw [List.mem_singleton.mp hy] at e
          exact h (e ▸ hx)
        · intro z
          have := m3.mpr (List.pairwise_append.mp z).1
          omega
/-- how many unlike ones -/
def dis (ns : List Int) : Nat := (met ns ns.length).length
theorem dis_le (ns : List Int) : dis ns ≤ ns.length := (met_spec (ns := ns) ns.length (Nat.le_refl _)).2.1
theorem dis_eq (ns : List Int) : dis ns = ns.length ↔ ns.Nodup := by
  have h := (met_spec (ns := ns) ns.length (Nat.le_refl _)).2.2
  rw [List.take_length] at h
  exact h
def tLenSetG (K : PySem.W.Frag) (ta : TE) : TE := fun σ H Q => ta σ H fun x H1 => ∃ (l : Addr) (ns : List Int), x = .ref l ∧ SqL K H1 l (ns.map V.int) ∧ ns.length ≤ 4000 ∧ Q (.int (dis ns : Int)) H1
theorem pe_lenSetG {X : Cx} {a : Expr} {ta : TE} {p p2 q pos : Pos} (hg : Gl X "len") (hm : X.mg "len" = none) (hg2 : Gl X "set") (hm2 : X.mg "set" = none) (ha : PE X a ta) (hc : X.calm = true := by rfl)
    (na : starEach [a] X.env = (false, eval a X.env) :: starEach [] X.env := by rfl) : PE X (.Call (.Name "len" p) [.Call (.Name "set" p2) [a] [] q] [] pos) (tLenSetG X.K ta) := by
  refine ⟨fun pins s σ H Q I h => ?_⟩
  refine Call_ (ld_blt I hg hm boot_len ?_)
  refine PyProof.Rows.callWith_builtin1 (PyProof.Rows.args_cons ?_ rfl) rfl rfl
  refine Call_ (ld_blt I hg2 hm2 boot_set ?_)
  refine PyProof.Rows.callWith_type1 (PyProof.Rows.args_cons (thn (ha.run pins s σ H _ I h) fun v s1 ⟨x, H1, I1, r1, q1⟩ => PyProof.Rows.args_nil ?_) na) na rfl
  obtain ⟨l, ns, rfl, hq, hl, q1⟩ := q1
  cases r1
  obtain ⟨its, r, pl, hz⟩ := I1.list hq
  have hlen : its.toArray.size = ns.length := by rw [List.size_toArray, ← r.length, List.length_map]
  refine call_set_list (I1.ok.hd hc) pl.isList (by simpa using RZ.intsAre_vals r) (by rw [hlen]; unfold scanBound; omega) fun h' tk hS hk => ?_
  refine PyProof.Rows.args_nil ?_
  rw [hlen] at hS
  obtain ⟨m1, m2, m3⟩ := met_spec (ns := ns) ns.length (Nat.le_refl _)
  rw [List.take_length] at m3
  obtain ⟨o, es, ep, t, ho, hex, hd, _, _, _, hf, hn⟩ := hS
  have hn' : _ = (met ns ns.length).length := hn
  have I2 : Inv X pins σ H1 { s1 with heap := h', toks := tk } := I1.kept fun b o e => hk b o (Heap.lt_size e) e
  exact call_len_set ho hex hd hf (by rw [hn'] <;> omega) ⟨.int (met ns ns.length).length, H1, I2.tok _, ⟨_, by rw [hn']⟩, q1⟩
/-- [g(x) for x in ns], truths -/
theorem lc_bools {K : PySem.W.Frag} {a : Addr} {ns : List Int} {i : Nat} {te : TE} {vs : List Nat} {σ : L2.St} {H0 : Hp} {D : Addr} {Qd : Hp → Prop} (g : Int → Bool) (hl : SqL K H0 a (ns.map V.int)) (nD : H0 D = none) (h4 : ns.length ≤ 4000)
    (hw : ∀ x, wipe ((wipe σ vs).set i (some (.int x))) vs = wipe σ vs)
    (hs : ∀ x H3, x ∈ ns → Kx H0 H3 → ∀ Q : VK, (∀ H4, Kx H3 H4 → Q (.bl (g x)) H4) → te ((wipe σ vs).set i (some (.int x))) H3 Q)
    (hd : ∀ H3, Kx H0 H3 → H3 D = some (.lst ((ns.map g).map V.bl)) → Qd H3) :
    ∃ W : Nat → Nat → Hp → Prop, (∃ m, W 0 m (upd H0 D (.lst []))) ∧ ∀ i1 m H, W i1 m H →
      ((Itl K a).stop i1 H ∧ Qd H) ∨ ((Itl K a).go i1 H ∧ ∃ Nx : Hp → Prop, (∀ H', Nx H' → ∃ m', m' < m ∧ W (i1 + 1) m' H') ∧ ∀ x H', (Itl K a).yld i1 H x H' → gName i x (wipe σ vs) H' fun σ2 H2 => wipe σ2 vs = wipe σ vs ∧ tYes σ2 H2 fun b H3 =>
        if b = true then te σ2 H3 fun y H4 => ∃ acc, H4 D = some (.lst acc) ∧ acc.length < sizeLine ∧ Nx (upd H4 D (.lst (acc ++ [y]))) else Nx H3) := by
  refine lc_list (K := K) (a := a) (xs := ns.map V.int) (fun j H3 => Kx H0 H3 ∧ H3 D = some (.lst (((ns.take j).map g).map V.bl))) ⟨Kx.new nD, upd_same⟩ (fun j H3 _ h => h.1.l hl) ?_ ?_
  · rintro j y H3 hj ⟨k3, hD⟩
    obtain ⟨x, hx, rfl⟩ : ∃ x, ns[j]? = some x ∧ V.int x = y := by
      rw [List.getElem?_map] at hj
      exact Option.map_eq_some_iff.mp hj
    have e1 : ns.take (j + 1) = ns.take j ++ [x] := by rw [List.take_add_one, hx] <;> rfl
    refine ⟨hw x, yesT ?_⟩
    refine hs x H3 (List.mem_of_getElem? hx) k3 _ fun H4 k4 => ⟨_, k4.lst hD, ?_, (k3.trans k4).mut nD, ?_⟩
    · rw [List.length_map, List.length_map, List.length_take]
      exact lt80 (by omega)
    · rw [upd_same, e1, List.map_append, List.map_append] <;> rfl
  · rintro H3 ⟨k3, hD⟩
    rw [List.length_map, List.take_length] at hD
    exact hd H3 k3 hD
theorem all_map (g : Int → Bool) (ns : List Int) : (ns.map g).all id = ns.all g := by rw [List.all_map] <;> rfl
theorem any_map (g : Int → Bool) (ns : List Int) : (ns.map g).any id = ns.any g := by rw [List.any_map] <;> rfl
/-- [φ for x, y in zip(xs, ys)] -/
theorem lc_zipF {K : PySem.W.Frag} {a b : Addr} {xs ys : List V} {s1 s2 : Nat} {te : TE} {vs : List Nat} {σ : L2.St} {H0 : Hp} {D : Addr} {Qd : Hp → Prop} (φ : Nat → V) (hl : xs.length = ys.length) (h4 : xs.length ≤ 4000) (ha : SqL K H0 a xs) (hb : SqL K H0 b ys) (nD : H0 D = none)
    (hw : ∀ x y, wipe (((wipe σ vs).set s1 (some x)).set s2 (some y)) vs = wipe σ vs)
    (hs : ∀ (i : Nat) (x y : V) (T : Addr) (H3 : Hp), xs[i]? = some x → ys[i]? = some y → Kx H0 H3 → H3 T = none → ∀ Q : VK, (∀ H4, Kx (upd H3 T (.tup [x, y])) H4 → Q (φ i) H4) → te (((wipe σ vs).set s1 (some x)).set s2 (some y)) (upd H3 T (.tup [x, y])) Q)
    (hd : ∀ H3, Kx H0 H3 → H3 D = some (.lst ((List.range xs.length).map φ)) → Qd H3) :
    ∃ W : Nat → Nat → Hp → Prop, (∃ m, W 0 m (upd H0 D (.lst []))) ∧ ∀ i1 m H, W i1 m H →
      ((Itz K a b).stop i1 H ∧ Qd H) ∨ ((Itz K a b).go i1 H ∧ ∃ Nx : Hp → Prop, (∀ H', Nx H' → ∃ m', m' < m ∧ W (i1 + 1) m' H') ∧ ∀ x H', (Itz K a b).yld i1 H x H' → gTup K 2 (gCons (gName s1) (gCons (gName s2) gNil)) x (wipe σ vs) H' fun σ2 H2 => wipe σ2 vs = wipe σ vs ∧ tYes σ2 H2 fun b H3 =>
        if b = true then te σ2 H3 fun y H4 => ∃ acc, H4 D = some (.lst acc) ∧ acc.length < sizeLine ∧ Nx (upd H4 D (.lst (acc ++ [y]))) else Nx H3) := by
  refine ⟨fun i m H => m = xs.length - i ∧ i ≤ xs.length ∧ Kx H0 H ∧ H D = some (.lst ((List.range i).map φ)), ⟨xs.length, rfl, Nat.zero_le _, Kx.new nD, upd_same⟩, ?_⟩
  rintro i m H ⟨rfl, hi, k3, hD⟩
  have qx := k3.l ha
  have qy := k3.l hb
  by_cases hlt : i < xs.length
  · have hx : xs[i]? = some xs[i] := List.getElem?_eq_getElem hlt
    have hlt2 : i < ys.length := by omega
    have hy : ys[i]? = some ys[i] := List.getElem?_eq_getElem hlt2
    refine .inr ⟨⟨xs, ys, _, _, qx, qy, hx, hy⟩, fun H' => Kx H0 H' ∧ H' D = some (.lst ((List.range (i + 1)).map φ)), fun H' p' => ⟨xs.length - (i + 1), by omega, rfl, hlt, p'.1, p'.2⟩, fun v H' y => ?_⟩
    obtain ⟨T, x', y', rfl, hT, rfl, f1, f2⟩ := y
    have ht : (upd H T (.tup [x', y'])) T = some (.tup [x', y']) := upd_same
    have kT : Kx H (upd H T (.tup [x', y'])) := Kx.new hT
    refine ⟨T, _, rfl, st_of ht, rfl, _, _, rfl, _, _, rfl, rfl, hw x' y', yesT ?_⟩
    refine hs i x' y' T H (f1 xs qx) (f2 ys qy) k3 hT _ fun H4 k4 => ⟨_, (kT.trans k4).lst hD, ?_, ((k3.trans kT).trans k4).mut nD, ?_⟩
    · rw [List.length_map, List.length_range]
      exact lt80 (by omega)
    · rw [upd_same, List.range_succ, List.map_append] <;> rfl
  · have e : i = xs.length := by omega
    subst e
    exact .inl ⟨⟨xs, ys, qx, qy, Or.inl (Nat.le_refl _)⟩, hd H k3 hD⟩
/-- for i, x in enumerate(xs) -/
theorem for_enumL {K : PySem.W.Frag} {a : Addr} {xs : List V} {g : TG} {tb : TS} {D : Ends} {σ : L2.St} {H : Hp} (Pv : Nat → L2.St → Hp → Prop) (h0 : Pv 0 σ H) (hl : ∀ i σ H, Pv i σ H → SqL K H a xs)
    (hs : ∀ (i : Nat) (x : V) (T : Addr) (σ : L2.St) (H : Hp), xs[i]? = some x → Pv i σ H → H T = none → g (.ref T) σ (upd H T (.tup [.int (i : Nat), x])) fun σ2 H2 => tb { D with nx := Pv (i + 1), ct := Pv (i + 1), bk := D.nx } σ2 H2) (hd : ∀ σ H, Pv xs.length σ H → D.nx σ H) :
    ∃ W : Nat → Nat → L2.St → Hp → Prop, (∃ m, W 0 m σ H) ∧ ∀ i m σ H, W i m σ H →
      ((Ite K a).stop i H ∧ D.nx σ H) ∨ ((Ite K a).go i H ∧ ∃ N : L2.St → Hp → Prop, (∀ σ' H', N σ' H' → ∃ m', m' < m ∧ W (i + 1) m' σ' H') ∧ ∀ v H', (Ite K a).yld i H v H' → g v σ H' fun σ2 H2 => tb { D with nx := N, ct := N, bk := D.nx } σ2 H2) := by
  refine ⟨fun i m σ H => m = xs.length - i ∧ i ≤ xs.length ∧ Pv i σ H, ⟨xs.length, rfl, Nat.zero_le _, h0⟩, ?_⟩
  rintro i m σ H ⟨rfl, hi, p⟩
  have qx := hl i σ H p
  by_cases hlt : i < xs.length
  · have hx : xs[i]? = some xs[i] := List.getElem?_eq_getElem hlt
    refine .inr ⟨⟨xs, _, qx, hx⟩, Pv (i + 1), fun σ' H' p' => ⟨xs.length - (i + 1), by omega, rfl, hlt, p'⟩, fun v H' y => ?_⟩
    obtain ⟨T, x', rfl, hT, rfl, f1⟩ := y
    exact hs i x' T σ H (f1 xs qx) p hT
  · have e : i = xs.length := by omega
    subst e
    exact .inl ⟨⟨xs, qx, Nat.le_refl _⟩, hd σ H p⟩
end CH
end

section
set_option Elab.async false
set_option linter.all false
set_option maxRecDepth 100000
set_option maxHeartbeats 4000000
/-! defs with defaults, methods, own classes -/
namespace CH
open PySem PySem.Spec PyProof.Rows L2
abbrev FnQ (K : PySem.W.Frag) (x qual : Str) (st : Stmt) (dvs : List V) (f : Addr) (fd : FuncData) : Prop := FunD K x qual (defArgs st) (defBody st) (defScope st) dvs [] f fd
/-- the code object of the function at f -/
def CodeAt (K : PySem.W.Frag) (f c : Addr) : Prop := ∀ oc od osl fd', K.lookup f = some ⟨oc, od, .func fd', osl⟩ → fd'.code = .ref c
/-- a def with defaults -/
structure DefQ (K : PySem.W.Frag) (mg : Str → Option Value) (x : Str) (st : Stmt) (dvs : List V) (c : Addr) : Prop where
  ex : ∃ (f : Addr) (fd : FuncData), FnQ K x x st dvs f fd ∧ mg x = some (.ref f) ∧ CodeAt K f c
/-- a method of an own class -/
structure MetT (K : PySem.W.Frag) (C : Addr) (m qual : Str) (st : Stmt) (c : Addr) : Prop where
  ex : ∃ (f : Addr) (fd : FuncData), FnQ K m qual st [] f fd ∧ Meth K C m f ∧ Cls K C ∧ CodeAt K f c
/-- an own class with its __init__ -/
structure MakT (K : PySem.W.Frag) (mg : Str → Option Value) (x : Str) (C : Addr) (qual : Str) (st : Stmt) (c : Addr) : Prop where
  ex : ∃ (f : Addr) (fd : FuncData), FnQ K "__init__" qual st [] f fd ∧ Mk K C f ∧ mg x = some (.ref C) ∧ CodeAt K f c
/-- what of a class its objects want -/
structure Own (K : PySem.W.Frag) (mg : Str → Option Value) (x : Str) (C : Addr) : Prop where
  g : mg x = some (.ref C)
  cl : Cls K C
  ha : PySem.W.findIn K (.ref C) "__class__" = some (some (.builtin "object.__class__"))
  hn : PySem.W.specialIn K (.builtin "object.__class__") "__get__" = some (some (.builtin "getset_descriptor.__get__"))
  htk : PySem.W.takesIn K (.builtin "object.__class__") = some true
  hm : PySem.W.mroIn K C (.type "object") = some true
theorem Own.cv {K : PySem.W.Frag} {mg : Str → Option Value} {x : Str} {C : Addr} (e : Own K mg x C) : ∃ u, mg x = some u ∧ RelV (.ref C) u := ⟨_, e.g, rfl⟩
theorem Own.ty {K : PySem.W.Frag} {mg : Str → Option Value} {x : Str} {C : Addr} (e : Own K mg x C) {H : Hp} {a dx : Addr} {fs : List (Str × V)} (h : H a = some (.ins C dx fs)) : TyX K H (.ref a) (.ref C) := .base (.ins h e.cl e.ha e.hn e.htk e.hm)
section
variable {P : Program} {w : World} {K : PySem.W.Frag} {mg : Str → Option Value} {base : Heap}
abbrev Bodies (CX : CXT) (P : Program) (w : World) (K : PySem.W.Frag) (mg : Str → Option Value) (base : Heap) (N : List Str) (qual : Str) (st : Stmt) (c : Addr) (k : Nat) (sp : Sp) : Prop :=
  ∀ (f : Addr) (A : Around) (outer : List Env) (s : Shared) (H : Hp) (vs : List V) (Q : VK) (E : XK), Room k (A.deeper (envOfC qual (defScope st) s.heap.objs.size f (.ref c))) → sp vs H Q E →
      ∃ t, PSs (cxOf CX P w K mg base N qual (defScope st) f (.ref c) A outer s H E) (defBody st) t ∧ t { nx := fun _ H' => Q .non H', rt := Q } (start N vs) H
abbrev Bodies0 (P : Program) (w : World) (K : PySem.W.Frag) (mg : Str → Option Value) (base : Heap) (N : List Str) (qual : Str) (st : Stmt) (c : Addr) (k : Nat) (sp : Sp) : Prop :=
  ∀ (f : Addr) (A : Around) (outer : List Env) (s : Shared) (H : Hp) (vs : List V) (Q : VK) (E : XK), Room k (A.deeper (envOfC qual (defScope st) s.heap.objs.size f (.ref c))) → sp vs H Q E →
      ∃ t, PSs (cxOf CX0 P w K mg base N qual (defScope st) f (.ref c) A outer s H E).nox (defBody st) t ∧ t { nx := fun _ H' => Q .non H', rt := Q } (start N vs) H
theorem fnq {CX : CXT} {x qual : Str} {st : Stmt} {dvs : List V} {f c : Addr} {fd : FuncData} {N ps : List Str} {k : Nat} {sp : Sp} (F : FnQ K x qual st dvs f fd) (hc : CodeAt K f c) (S : FnScope N ps (defScope st)) (len : ∀ vs H Q E, sp vs H Q E → vs.length = ps.length)
    (hbody : Bodies CX P w K mg base N qual st c k sp) : FnOk P w K mg base CX (k + 1) f fd ps sp := by
  obtain ⟨oc, od, dV, kV, doc, pm, an, cdv, ct, osl, rfl, lk, hcd, _, _⟩ := F.ex
  obtain rfl : cdv = .ref c := hc _ _ _ _ lk
  exact fn_of lk hcd S len fun A outer s H vs Q E hr hsp => hbody f A outer s H vs Q E hr hsp
theorem Bodies0.x {N : List Str} {qual : Str} {st : Stmt} {c : Addr} {k : Nat} {sp : Sp} (h : Bodies0 P w K mg base N qual st c k sp) : Bodies CX0 P w K mg base N qual st c k sp := fun f A outer s H vs Q E hr hs => by
  obtain ⟨t, a, b⟩ := h f A outer s H vs Q E hr hs
  exact ⟨t, a.nox, b⟩
abbrev BindF (ps : List Str) (x qual : Str) (st : Stmt) : Prop :=
  ∀ (kV doc pm : Value) (an : Option Addr) (cdv ct : Value) (us : List Value), us.length = ps.length → bindArgs (PySem.W.fnOf x qual (defArgs st) (defBody st) (defScope st) .none kV doc pm an cdv ct) ⟨us, []⟩ = pure (ps.zip us)
/-- defaults from the j-th on fill up what is not written -/
abbrev BindD (ps : List Str) (x qual : Str) (st : Stmt) (n j m : Nat) : Prop :=
  ∀ (T : Addr) (kV doc pm : Value) (an : Option Addr) (cdv ct : Value) (us its : List Value), us.length = n → its.length = m →
      ∃ k, bindArgs (PySem.W.fnOf x qual (defArgs st) (defBody st) (defScope st) (.ref T) kV doc pm an cdv ct) ⟨us, []⟩ = seqItems? (.ref T) >>= k ∧ k (some its.toArray) = pure (ps.zip (us ++ its.drop j))
theorem calQ_of {x : Str} {st : Stmt} {dvs : List V} {c : Addr} {N ps : List Str} {k n j : Nat} {sp : Sp} (D : DefQ K mg x st dvs c) (S : FnScope N ps (defScope st)) (hd : dvs ≠ []) (hn : n + (dvs.length - j) = ps.length) (hb : BindD ps x x st n j dvs.length)
    (len : ∀ vs H Q E, sp vs H Q E → vs.length = ps.length) (hbody : Bodies0 P w K mg base N x st c k sp) : C8.Cal P w K mg base (k + 1) x sp (dvs.drop j) := by
  obtain ⟨f, fd, F, hm, hc⟩ := D.ex
  obtain ⟨ds, r, b⟩ := F.binds1 n j hd hn hb
  exact ⟨f, fd, ps, ds, fnq F hc S len hbody.x, hm, F.kp, b, r⟩
theorem met_of {C : Addr} {m qual : Str} {st : Stmt} {c : Addr} {N ps : List Str} {k : Nat} {sp : Sp} (D : MetT K C m qual st c) (S : FnScope N ps (defScope st)) (hb : BindF ps m qual st)
    (len : ∀ vs H Q E, sp vs H Q E → vs.length = ps.length) (hbody : Bodies0 P w K mg base N qual st c k sp) : C8.Met P w K mg base (k + 1) C m sp [] := by
  obtain ⟨f, fd, F, hm, cl, hc⟩ := D.ex
  exact ⟨f, fd, ps, [], cl, hm, fnq F hc S len hbody.x, FunD.bindsN F hb, .nil⟩
theorem mak_of {x : Str} {C : Addr} {qual : Str} {st : Stmt} {c : Addr} {N ps : List Str} {k : Nat} {sp : Sp} (D : MakT K mg x C qual st c) (S : FnScope N ps (defScope st)) (hb : BindF ps "__init__" qual st)
    (len : ∀ vs H Q E, sp vs H Q E → vs.length = ps.length) (hbody : Bodies0 P w K mg base N qual st c k sp) : C8.Mak P w K mg base (k + 1) x C sp [] := by
  obtain ⟨f, fd, F, hm, hg, hc⟩ := D.ex
  exact ⟨f, fd, ps, [], hm, fnq F hc S len hbody.x, hg, FunD.bindsN F hb, .nil⟩
/-- a method that may raise -/
structure MetX (P : Program) (w : World) (K : PySem.W.Frag) (mg : Str → Option Value) (base : Heap) (k : Nat) (C : Addr) (m : Str) (sp : Sp) : Prop where
  ex : ∃ (f : Addr) (fd : FuncData) (ps : List Str), Cls K C ∧ Meth K C m f ∧ FnOk P w K mg base (L2.CX P w) k f fd ps sp ∧ Binds K fd ps []
theorem metX_of {C : Addr} {m qual : Str} {st : Stmt} {c : Addr} {N ps : List Str} {k : Nat} {sp : Sp} (D : MetT K C m qual st c) (S : FnScope N ps (defScope st)) (hb : BindF ps m qual st)
    (len : ∀ vs H Q E, sp vs H Q E → vs.length = ps.length) (hbody : Bodies (L2.CX P w) P w K mg base N qual st c k sp) : MetX P w K mg base (k + 1) C m sp := by
  obtain ⟨f, fd, F, hm, cl, hc⟩ := D.ex
  exact ⟨f, fd, ps, cl, hm, fnq F hc S len hbody, FunD.bindsN F hb⟩
/-- .. where it does not raise -/
theorem MetX.met {k : Nat} {C : Addr} {m : Str} {sp sp' : Sp} (c : MetX P w K mg base k C m sp) (h : ∀ vs H Q E, sp' vs H Q E → sp vs H Q C8.E0) : C8.Met P w K mg base k C m sp' [] := by
  obtain ⟨f, fd, ps, cl, hm, F, b⟩ := c.ex
  refine ⟨f, fd, ps, [], cl, hm, ⟨fun vs H Q E q => F.len vs H Q _ (h _ _ _ _ q), fun A outer s H args us vs Q E hr he hb hv hs => ?_⟩, b, .nil⟩
  refine codeAny_mono (F.run A outer s H args us vs Q C8.E0 hr he hb hv (h _ _ _ _ hs)) fun r s' q => ?_
  cases r with
  | ok f => cases f <;> exact q
  | error e => exact (cx_e0 q).elim
/-- a class whose __init__ may raise -/
structure MakX (P : Program) (w : World) (K : PySem.W.Frag) (mg : Str → Option Value) (base : Heap) (k : Nat) (x : Str) (C : Addr) (sp : Sp) : Prop where
  ex : ∃ (f : Addr) (fd : FuncData) (ps : List Str), Mk K C f ∧ FnOk P w K mg base (L2.CX P w) k f fd ps sp ∧ mg x = some (.ref C) ∧ Binds K fd ps []
theorem makX_of {x : Str} {C : Addr} {qual : Str} {st : Stmt} {c : Addr} {N ps : List Str} {k : Nat} {sp : Sp} (D : MakT K mg x C qual st c) (S : FnScope N ps (defScope st)) (hb : BindF ps "__init__" qual st)
    (len : ∀ vs H Q E, sp vs H Q E → vs.length = ps.length) (hbody : Bodies (L2.CX P w) P w K mg base N qual st c k sp) : MakX P w K mg base (k + 1) x C sp := by
  obtain ⟨f, fd, F, hm, hg, hc⟩ := D.ex
  exact ⟨f, fd, ps, hm, fnq F hc S len hbody, hg, FunD.bindsN F hb⟩
theorem MakX.mak {k : Nat} {C : Addr} {x : Str} {sp sp' : Sp} (c : MakX P w K mg base k x C sp) (h : ∀ vs H Q E, sp' vs H Q E → sp vs H Q C8.E0) : C8.Mak P w K mg base k x C sp' [] := by
  obtain ⟨f, fd, ps, hm, F, hg, b⟩ := c.ex
  refine ⟨f, fd, ps, [], hm, ⟨fun vs H Q E q => F.len vs H Q _ (h _ _ _ _ q), fun A outer s H args us vs Q E hr he hb hv hs => ?_⟩, hg, b, .nil⟩
  refine codeAny_mono (F.run A outer s H args us vs Q C8.E0 hr he hb hv (h _ _ _ _ hs)) fun r s' q => ?_
  cases r with
  | ok f => cases f <;> exact q
  | error e => exact (cx_e0 q).elim
end
section
variable {X : Cx} {k j : Nat} {C : Addr} {x m : Str} {sp : Sp} {p pos apos : Pos} {e o : Expr} {es : List Expr} {ta : TE} {t : TA} {E : XK} {W : WX}
/-- one expression, two readings: whoever answers picks one -/
theorem pe_any2 {t1 t2 : TE} (a : PE X e t1) (b : PE X e t2) : PE X e (fun σ H Q => t1 σ H Q ∨ t2 σ H Q) := ⟨fun pins s σ H Q I h => h.elim (a.run pins s σ H Q I) (b.run pins s σ H Q I)⟩
/-- an object is made; what its __init__ raises leaves the def -/
theorem pe_mkX (c : MakX X.prog X.w X.K X.mg X.base k x C sp) (hr : Room j X.A) (hk : k + 1 ≤ j) (hg : Gl X x) (tk : Takes X (fun cls d _ H => E cls d H)) (ha : PA X (e :: es) t)
    (hdb : (x == ("__debug__" : Str)) = false := by decide) (he : starEach (e :: es) X.env = (false, eval e X.env) :: starEach es X.env := by rfl) (hpl : (backTo pos (starEach es X.env)).any (·.1) = false := by rfl) :
    PE X (.Call (.Name x p) (e :: es) [] pos) (tMake C sp [] E t) := by
  obtain ⟨f, fd, ps, M, F, hm, b⟩ := c.ex
  exact pe_make M F (hr.mono hk) hg hm b .nil (passes_call tk fun _ _ _ _ h => h) ha hdb he hpl
theorem pe_mtX {pl : Sem Bool} (c : MetX X.prog X.w X.K X.mg X.base k C m sp) (hr : Room j X.A) (hk : k ≤ j) (tk : Takes X (fun cls d _ H => E cls d H)) (he : PE X o ta) (ha : PA X (e :: es) t)
    (hst : starEach (e :: es) X.env = (false, eval e X.env) :: starEach es X.env := by rfl) (hpl : (backTo pos (starEach es X.env)).any (·.1) = false := by rfl)
    (ht : eval (.Call (.Attribute o m apos) (e :: es) [] pos) X.env = (do
      let ov ← eval o X.env
      standAt apos.atName
      let fx ← holding [ov] (getMethod ov m pl)
      callWith pos fx.1 fx.2 (backTo pos (starEach (e :: es) X.env)) (backToKw pos (keywordEach [] X.env))) := by rfl) :
    PE X (.Call (.Attribute o m apos) (e :: es) [] pos) (tMeth C m sp [] E ta t) := by
  obtain ⟨f, fd, ps, cl, hm, F, b⟩ := c.ex
  exact pe_meth (pl := pl) he cl hm F (hr.mono hk) b .nil (passes_call tk fun _ _ _ _ h => h) ha hst hpl ht
end
end CH
end

section
set_option Elab.async false
set_option linter.all false
set_option maxRecDepth 100000
set_option maxHeartbeats 4000000
namespace CH
open PySem PySem.Spec PyProof.Rows L2
/-- [φ for i, x in enumerate(xs)] -/
theorem lc_enumF {K : PySem.W.Frag} {a : Addr} {xs : List V} {s1 s2 : Nat} {te : TE} {vs : List Nat} {σ : L2.St} {H0 : Hp} {D : Addr} {Qd : Hp → Prop} (φ : Nat → V) (h4 : xs.length ≤ 4000) (ha : SqL K H0 a xs) (nD : H0 D = none)
    (hw : ∀ x y, wipe (((wipe σ vs).set s1 (some x)).set s2 (some y)) vs = wipe σ vs)
    (hs : ∀ (i : Nat) (x : V) (T : Addr) (H3 : Hp), xs[i]? = some x → Kx H0 H3 → H3 T = none → ∀ Q : VK, (∀ H4, Kx (upd H3 T (.tup [.int (i : Nat), x])) H4 → Q (φ i) H4) → te (((wipe σ vs).set s1 (some (.int (i : Nat)))).set s2 (some x)) (upd H3 T (.tup [.int (i : Nat), x])) Q)
    (hd : ∀ H3, Kx H0 H3 → H3 D = some (.lst ((List.range xs.length).map φ)) → Qd H3) :
    ∃ W : Nat → Nat → Hp → Prop, (∃ m, W 0 m (upd H0 D (.lst []))) ∧ ∀ i1 m H, W i1 m H →
      ((Ite K a).stop i1 H ∧ Qd H) ∨ ((Ite K a).go i1 H ∧ ∃ Nx : Hp → Prop, (∀ H', Nx H' → ∃ m', m' < m ∧ W (i1 + 1) m' H') ∧ ∀ x H', (Ite K a).yld i1 H x H' → gTup K 2 (gCons (gName s1) (gCons (gName s2) gNil)) x (wipe σ vs) H' fun σ2 H2 => wipe σ2 vs = wipe σ vs ∧ tYes σ2 H2 fun b H3 =>
        if b = true then te σ2 H3 fun y H4 => ∃ acc, H4 D = some (.lst acc) ∧ acc.length < sizeLine ∧ Nx (upd H4 D (.lst (acc ++ [y]))) else Nx H3) := by
  refine ⟨fun i m H => m = xs.length - i ∧ i ≤ xs.length ∧ Kx H0 H ∧ H D = some (.lst ((List.range i).map φ)), ⟨xs.length, rfl, Nat.zero_le _, Kx.new nD, upd_same⟩, ?_⟩
  rintro i m H ⟨rfl, hi, k3, hD⟩
  have qx := k3.l ha
  by_cases hlt : i < xs.length
  · have hx : xs[i]? = some xs[i] := List.getElem?_eq_getElem hlt
    refine .inr ⟨⟨xs, _, qx, hx⟩, fun H' => Kx H0 H' ∧ H' D = some (.lst ((List.range (i + 1)).map φ)), fun H' p' => ⟨xs.length - (i + 1), by omega, rfl, hlt, p'.1, p'.2⟩, fun v H' y => ?_⟩
    obtain ⟨T, x', rfl, hT, rfl, f1⟩ := y
    have ht : (upd H T (.tup [.int (i : Nat), x'])) T = some (.tup [.int (i : Nat), x']) := upd_same
    have kT : Kx H (upd H T (.tup [.int (i : Nat), x'])) := Kx.new hT
    refine ⟨T, _, rfl, st_of ht, rfl, _, _, rfl, _, _, rfl, rfl, hw _ x', yesT ?_⟩
    refine hs i x' T H (f1 xs qx) k3 hT _ fun H4 k4 => ⟨_, (kT.trans k4).lst hD, ?_, ((k3.trans kT).trans k4).mut nD, ?_⟩
    · rw [List.length_map, List.length_range]
      exact lt80 (by omega)
    · rw [upd_same, List.range_succ, List.map_append] <;> rfl
  · have e : i = xs.length := by omega
    subst e
    exact .inl ⟨⟨xs, qx, Nat.le_refl _⟩, hd H k3 hD⟩
/-- an object just made, its field stored -/
theorem Kx.made {H0 H1 : Hp} {x dx C : Addr} {fs fs' : List (Str × V)} (nx : H0 x = none) (ndx : H0 dx = none) (k : Kx (upd (upd H0 dx (.own x)) x (.ins C dx fs)) H1) : Kx H0 (upd H1 x (.ins C dx fs')) := by
  refine Kx.mut (Kx.trans ?_ k) nx
  exact (Kx.new ndx).mut nx
section
variable {P : Program} {w : World} {K : PySem.W.Frag} {mg : Str → Option Value} {base : Heap}
theorem fnok_of {x : Str} {st : Stmt} {f c : Addr} {fd : FuncData} {N ps : List Str} {k : Nat} {sp : Sp} (F : FnT K x st f fd) (hc : ∀ oc od osl fd', K.lookup f = some ⟨oc, od, .func fd', osl⟩ → fd'.code = .ref c) (S : FnScope N ps (defScope st))
    (len : ∀ vs H Q E, sp vs H Q E → vs.length = ps.length)
    (hbody : ∀ (A : Around) (outer : List Env) (s : Shared) (H : Hp) (vs : List V) (Q : VK) (E : XK), Room k (A.deeper (envOfC x (defScope st) s.heap.objs.size f (.ref c))) → sp vs H Q E →
      ∃ t, PSs (cxOf CX0 P w K mg base N x (defScope st) f (.ref c) A outer s H E).nox (defBody st) t ∧ t { nx := fun _ H' => Q .non H', rt := Q } (start N vs) H) : FnOk P w K mg base CX0 (k + 1) f fd ps sp := by
  obtain ⟨oc, od, dV, kV, doc, pm, an, cdv, ct, osl, rfl, lk, hcd, _, _⟩ := F.ex
  obtain rfl : cdv = .ref c := hc _ _ _ _ lk
  refine fn_of lk hcd S len fun A outer s H vs Q E hr hsp => ?_
  obtain ⟨t, h, q⟩ := hbody A outer s H vs Q E hr hsp
  exact ⟨t, h.nox, q⟩
end
/-- a weaker promise -/
theorem Cal.weak {P : Program} {w : World} {K : PySem.W.Frag} {mg : Str → Option Value} {base : Heap} {k : Nat} {x : Str} {sp sp' : Sp} {dvs : List V} (c : C8.Cal P w K mg base k x sp dvs) (h : ∀ vs H Q E, sp' vs H Q E → sp vs H Q E) : C8.Cal P w K mg base k x sp' dvs := by
  obtain ⟨f, fd, ps, ds, F, hm, kp, b, d⟩ := c.ex
  exact ⟨f, fd, ps, ds, ⟨fun vs H Q E q => F.len vs H Q E (h _ _ _ _ q), fun A outer s H args us vs Q E hr he hb hv hs => F.run A outer s H args us vs Q E hr he hb hv (h _ _ _ _ hs)⟩, hm, kp, b, d⟩
def rListOf (K : PySem.W.Frag) : List V → Hp → VK → Prop := fun xs H Q => ∃ p ys, xs = [V.ref p] ∧ (SqL K H p ys ∨ SqT K H p ys) ∧ ∀ l : Addr, H l = none → Q (V.ref l) (upd H l (.lst ys))
end CH
end

section
set_option Elab.async false
set_option linter.all false
namespace CH
open PySem L2
/-! ### words -/
structure Wd where
  c : Int
  h : Int
  p : Int
  o : Int
  a : Str
  deriving DecidableEq
def Wd.V (w : Wd) : List V := [.int w.c, .int w.h, .int w.p, .int w.o, .str w.a]
def ansL : List Str := ["yes", "maybe", "no"]
def Wd.ok (w : Wd) : Prop := 1 ≤ w.c ∧ w.c ≤ 99 ∧ 0 ≤ w.h ∧ w.h ≤ 3 ∧ 0 ≤ w.p ∧ w.p ≤ 7 ∧ 0 ≤ w.o ∧ w.o ≤ 11 ∧ w.a ∈ ansL
/-- the words ws stand at ts -/
def WAt (K : PySem.W.Frag) (H : Hp) (ts : List Addr) (ws : List Wd) : Prop := Paired (fun t w => SqT K H t w.V) ts ws
theorem WAt.k {K : PySem.W.Frag} {H H' : Hp} {ts : List Addr} {ws : List Wd} (k : Kx H H') (h : WAt K H ts ws) : WAt K H' ts ws := by
  induction h with
  | nil => exact .nil
  | cons r t ih => exact .cons (k.t r) ih
/-- a list or a dict of ours is changed: the tuples stay -/
theorem st_up {K : PySem.W.Frag} {H : Hp} {r t : Addr} {o u : HO} {xs : List V} (hr : H r = some o) (n1 : ∀ ys, o ≠ .tup ys) (n2 : ∀ b v, o ≠ .frz b v) (h : SqT K H t xs) : SqT K (upd H r u) t xs := by
  rcases h with (h | ⟨b, h⟩) | h
  · refine .inl (.inl ?_)
    rw [upd_ne fun e => n1 xs (Option.some.inj (hr.symm.trans (by rw [← e]; exact h)))]
    exact h
  · refine .inl (.inr ⟨b, ?_⟩)
    rw [upd_ne fun e => n2 b _ (Option.some.inj (hr.symm.trans (by rw [← e]; exact h)))]
    exact h
  · exact .inr h
theorem WAt.up {K : PySem.W.Frag} {H : Hp} {r : Addr} {o u : HO} {ts : List Addr} {ws : List Wd} (hr : H r = some o) (n1 : ∀ ys, o ≠ .tup ys) (n2 : ∀ b v, o ≠ .frz b v) (h : WAt K H ts ws) : WAt K (upd H r u) ts ws := by
  induction h with
  | nil => exact .nil
  | cons q t ih => exact .cons (st_up hr n1 n2 q) ih
theorem paired_len {α β : Type} {F : α → β → Prop} : ∀ {xs : List α} {ys : List β}, Paired F xs ys → xs.length = ys.length
  | _, _, .nil => rfl
  | _, _, .cons _ t => congrArg Nat.succ (paired_len t)
theorem paired_at {α β : Type} {F : α → β → Prop} : ∀ {xs : List α} {ys : List β} {i : Nat} {x : α}, Paired F xs ys → xs[i]? = some x → ∃ y, ys[i]? = some y ∧ F x y
  | _, _, _, _, .nil, h => by simp at h
  | _, _, 0, _, .cons r _, h => by
    cases h
    exact ⟨_, rfl, r⟩
  | _, _, i + 1, x, .cons _ t, h => paired_at (i := i) (x := x) t (by simpa using h)
theorem paired_snoc {α β : Type} {F : α → β → Prop} {x : α} {y : β} : ∀ {xs : List α} {ys : List β}, Paired F xs ys → F x y → Paired F (xs ++ [x]) (ys ++ [y])
  | _, _, .nil, h => .cons h .nil
  | _, _, .cons r t, h => .cons r (paired_snoc t h)
/-- a list of words at l -/
def WsAt (K : PySem.W.Frag) (H : Hp) (l : Addr) (ws : List Wd) : Prop := ∃ ts, SqL K H l (ts.map V.ref) ∧ WAt K H ts ws
theorem WsAt.k {K : PySem.W.Frag} {H H' : Hp} {l : Addr} {ws : List Wd} (k : Kx H H') (h : WsAt K H l ws) : WsAt K H' l ws := by
  obtain ⟨ts, h1, h2⟩ := h
  exact ⟨ts, k.l h1, h2.k k⟩
end CH
end

section
set_option Elab.async false
set_option linter.all false
set_option maxRecDepth 100000
namespace CH
open PySem PySem.Spec PyProof.Rows L2
/-! ### words once, in order -/
def plt (a b : Wd) : Prop := a.c < b.c ∨ (a.c = b.c ∧ a.h < b.h)
structure Once (ws us : List Wd) : Prop where
  mem : ∀ x, x ∈ us ↔ x ∈ ws
  ord : us.Pairwise plt
def Alike (ws : List Wd) : Prop := ∀ a ∈ ws, ∀ b ∈ ws, a.c = b.c → a.h = b.h → a = b
/-- tracked tuples -/
def TAt (H : Hp) (ts : List Addr) (ws : List Wd) : Prop := Paired (fun t w => H t = some (.tup w.V)) ts ws
theorem TAt.k {H H' : Hp} {ts : List Addr} {ws : List Wd} (k : Kx H H') (h : TAt H ts ws) : TAt H' ts ws := by
  induction h with
  | nil => exact .nil
  | cons r t ih => exact .cons (k.tup r) ih
theorem TAt.w {K : PySem.W.Frag} {H : Hp} {ts : List Addr} {ws : List Wd} (h : TAt H ts ws) : WAt K H ts ws := by
  induction h with
  | nil => exact .nil
  | cons r t ih => exact .cons (st_of r) ih
theorem TAt.up {H : Hp} {r : Addr} {o u : HO} {ts : List Addr} {ws : List Wd} (hr : H r = some o) (n1 : ∀ ys, o ≠ .tup ys) (h : TAt H ts ws) : TAt (upd H r u) ts ws := by
  induction h with
  | nil => exact .nil
  | cons q t ih =>
    refine .cons ?_ ih
    rw [upd_ne fun e => n1 _ (Option.some.inj (hr.symm.trans (by rw [← e]; exact q)))]
    exact q
def Wd.ints (w : Wd) : List Int := [w.c, w.h, w.p, w.o]
def wkOf (H : Hp) (t : Addr) : List Int × Str := match H t with
  | some (.tup [.int a, .int b, .int c, .int d, .str z]) => ([a, b, c, d], z)
  | _ => ([], "")
theorem wkOf_eq {H : Hp} {t : Addr} {w : Wd} (h : H t = some (.tup w.V)) : wkOf H t = (w.ints, w.a) := by
  unfold wkOf
  rw [h] <;> rfl
theorem wdV_ints (w : Wd) : wdV (w.ints, w.a) = w.V := rfl
/-- the words of the pairs stand at their places -/
def PAt (H : Hp) (qs : List (Addr × Wd)) : Prop := ∀ q ∈ qs, H q.1 = some (.tup q.2.V)
theorem PAt.k {H H' : Hp} {qs : List (Addr × Wd)} (k : Kx H H') (h : PAt H qs) : PAt H' qs := fun q hq => k.tup (h q hq)
theorem PAt.up {H : Hp} {r : Addr} {o u : HO} {qs : List (Addr × Wd)} (hr : H r = some o) (n1 : ∀ ys, o ≠ .tup ys) (h : PAt H qs) : PAt (upd H r u) qs := fun q hq => by
  rw [upd_ne fun e => n1 _ (Option.some.inj (hr.symm.trans (by rw [← e]; exact h q hq)))]
  exact h q hq
def kW (w : Wd) : List Key := [Sum.inl w.c, Sum.inl w.h]
theorem kW_inj {a b : Wd} (h : kW a = kW b) : a.c = b.c ∧ a.h = b.h := by
  unfold kW at h
  injection h with h1 h2
  injection h2 with h2 _
  exact ⟨Sum.inl.inj h1, Sum.inl.inj h2⟩
def entW (q : Addr × Wd) : List Key × V := (kW q.2, .ref q.1)
theorem valV_entW {w : Wd} : ∀ {qs : List (Addr × Wd)}, (∃ q ∈ qs, kW q.2 = kW w ∧ valV (qs.map entW) (kW w) = some (.ref q.1)) ∨ ((∀ q ∈ qs, kW q.2 ≠ kW w) ∧ valV (qs.map entW) (kW w) = none)
  | [] => .inr ⟨fun q h => absurd h (by simp), rfl⟩
  | q :: qs => by
    by_cases e : kW q.2 = kW w
    · refine .inl ⟨q, List.mem_cons_self, e, ?_⟩
      rw [List.map_cons, valV_pos (p := entW q) e] <;> rfl
    · rcases valV_entW (w := w) (qs := qs) with ⟨p, hp, h1, h2⟩ | ⟨h1, h2⟩
      · refine .inl ⟨p, List.mem_cons_of_mem _ hp, h1, ?_⟩
        rw [List.map_cons, valV_neg (p := entW q) e, h2]
      · refine .inr ⟨fun p hp => ?_, ?_⟩
        · rcases List.mem_cons.mp hp with rfl | hp
          · exact e
          · exact h1 p hp
        · rw [List.map_cons, valV_neg (p := entW q) e, h2]
/-- what was kept so far of ws -/
structure Kept (qs : List (Addr × Wd)) (ws : List Wd) : Prop where
  mem : ∀ x, x ∈ qs.map (·.2) ↔ x ∈ ws
  nd : qs.Pairwise fun a b => kW a.2 ≠ kW b.2
theorem Kept.nil : Kept [] [] := ⟨fun x => by simp, List.Pairwise.nil⟩
theorem Kept.same {qs : List (Addr × Wd)} {ws : List Wd} {x : Wd} (k : Kept qs ws) (h : x ∈ qs.map (·.2)) : Kept qs (ws ++ [x]) := by
  refine ⟨fun y => ?_, k.nd⟩
  rw [List.mem_append, List.mem_singleton]
  constructor
  · intro hy
    exact .inl ((k.mem y).mp hy)
  · rintro (hy | rfl)
    · exact (k.mem y).mpr hy
    · exact h
theorem Kept.more {qs : List (Addr × Wd)} {ws : List Wd} {q : Addr × Wd} (k : Kept qs ws) (h : ∀ p ∈ qs, kW p.2 ≠ kW q.2) : Kept (qs ++ [q]) (ws ++ [q.2]) := by
  refine ⟨fun y => ?_, List.pairwise_append.mpr ⟨k.nd, List.pairwise_singleton _ _, fun a ha b hb => ?_⟩⟩
  · rw [List.map_append, List.mem_append, List.mem_append, k.mem y]
    rfl
  · rw [List.mem_singleton.mp hb]
    exact h a ha
/-- sorted: once -/
theorem once_of {H : Hp} {qs : List (Addr × Wd)} {ws : List Wd} {ts' : List Addr} (k : Kept qs ws) (hp : PAt H qs) (p : ts'.Perm (qs.map (·.1))) (s : ts'.Pairwise fun x y => HT.lexLt (keyOf (wkOf H) y) (keyOf (wkOf H) x) = false) :
    ∃ us, TAt H ts' us ∧ Once ws us := by
  -- the pairs in the order of ts'
  obtain ⟨rs, pr, er⟩ := perm_lift (fun q : Addr × Wd => q.1) p qs rfl
  subst er
  have hr : ∀ q ∈ rs, H q.1 = some (.tup q.2.V) := fun q hq => hp q (pr.mem_iff.mp hq)
  have nd : rs.Pairwise fun a b => kW a.2 ≠ kW b.2 := (pr.pairwise_iff (fun h z => h z.symm)).mpr k.nd
  refine ⟨rs.map (·.2), ?_, fun x => ?_, ?_⟩
  · have all : ∀ l : List (Addr × Wd), (∀ q ∈ l, H q.1 = some (.tup q.2.V)) → TAt H (l.map (·.1)) (l.map (·.2)) := by
      intro l
      induction l with
      | nil => intro _; exact .nil
      | cons q l ih => intro h; exact .cons (h q List.mem_cons_self) (ih fun p hp => h p (List.mem_cons_of_mem _ hp))
    exact all rs hr
  · rw [← k.mem x]
    exact (pr.map (·.2)).mem_iff
  · rw [List.pairwise_map] at s ⊢
    refine List.Pairwise.imp_of_mem (fun {a b} ha hb h => ?_) (s.and nd)
    obtain ⟨h1, h2⟩ := h
    have ea := wkOf_eq (hr a ha)
    have eb := wkOf_eq (hr b hb)
    have h1' : HT.lexLt (wkey b.2.ints b.2.a) (wkey a.2.ints a.2.a) = false := by
      have z : HT.lexLt (keyOf (wkOf H) b.1) (keyOf (wkOf H) a.1) = false := h1
      unfold keyOf at z
      rw [ea, eb] at z
      exact z
    have h1'' : HT.lexLt (b.2.c :: b.2.h :: b.2.p :: b.2.o :: strInts b.2.a) (a.2.c :: a.2.h :: a.2.p :: a.2.o :: strInts a.2.a) = false := h1'
    rw [HT.lexLt_cons] at h1''
    by_cases e : b.2.c = a.2.c
    · rw [if_pos e, HT.lexLt_cons] at h1''
      by_cases e2 : b.2.h = a.2.h
      · exact absurd (by unfold kW; rw [e, e2] : kW a.2 = kW b.2) h2
      · rw [if_neg e2] at h1''
        have := of_decide_eq_false h1''
        exact .inr ⟨e.symm, by omega⟩
    · rw [if_neg e] at h1''
      have := of_decide_eq_false h1''
      exact .inl (by omega)
/-! ### words, lists of ints as data -/
def wdD (w : Wd) : PyData := .tuple [.int w.c, .int w.h, .int w.p, .int w.o, .str w.a]
theorem wdD_dp {K : PySem.W.Frag} {H : Hp} {t : Addr} {w : Wd} (h : SqT K H t w.V) : Dp K H (.ref t) (wdD w) := .tup h (.cons (.int _) (.cons (.int _) (.cons (.int _) (.cons (.int _) (.cons (.str _) .nil)))))
theorem beq_str (x y : Str) : (x == y) = decide (x = y) := by
  by_cases h : x = y
  · subst h; simp
  · rw [decide_eq_false h]
    exact beq_eq_false_iff_ne.mpr h
theorem wdD_eqv (a b : Wd) : PyData.eqv (wdD a) (wdD b) = decide (a = b) := by
  obtain ⟨a1, a2, a3, a4, a5⟩ := a
  obtain ⟨b1, b2, b3, b4, b5⟩ := b
  have e : PyData.eqv (wdD ⟨a1, a2, a3, a4, a5⟩) (wdD ⟨b1, b2, b3, b4, b5⟩) = ((a1 == b1) && ((a2 == b2) && ((a3 == b3) && ((a4 == b4) && ((a5 == b5) && true))))) := rfl
  rw [e, Bool.eq_iff_iff, decide_eq_true_eq]
  simp
theorem ans_ok {a : Str} (h : a ∈ ansL) : PyData.strOk a = true := by
  unfold ansL at h
  rcases List.mem_cons.mp h with rfl | h
  · decide +kernel
  · rcases List.mem_cons.mp h with rfl | h
    · decide +kernel
    · rw [List.mem_singleton.mp h]
      decide +kernel
theorem wdD_lay {w : Wd} (h : w.a ∈ ansL) : (wdD w).canLay0 = true := by
  simp only [wdD, PyData.canLay0, PyData.canLayAll0, ans_ok h, Bool.and_self]
theorem wdD_depth (w : Wd) : (wdD w).depth = 1 := by
  simp [wdD, PyData.depth, PyData.depthAll]
theorem wdD_sh {w : Wd} (h : w.a ∈ ansL) : SeqAt.shaped (wdD w) = true := by
  unfold SeqAt.shaped
  rw [wdD_lay h, wdD_depth]
  rfl
/-- a list of words -/
def wsD (ws : List Wd) : PyData := .list (ws.map wdD)
theorem eqvAll_map {α : Type} [DecidableEq α] {f : α → PyData} (hf : ∀ a b, PyData.eqv (f a) (f b) = decide (a = b)) : ∀ xs ys : List α, PyData.eqvAll (xs.map f) (ys.map f) = decide (xs = ys)
  | [], [] => rfl
  | [], _ :: _ => rfl
  | _ :: _, [] => rfl
  | x :: xs, y :: ys => by
    have e : PyData.eqvAll ((x :: xs).map f) ((y :: ys).map f) = (PyData.eqv (f x) (f y) && PyData.eqvAll (xs.map f) (ys.map f)) := rfl
    rw [e, hf, eqvAll_map hf xs ys, Bool.eq_iff_iff]
    simp
theorem wsD_eqv (xs ys : List Wd) : PyData.eqv (wsD xs) (wsD ys) = decide (xs = ys) := eqvAll_map wdD_eqv xs ys
theorem wsD_dp {K : PySem.W.Frag} {H : Hp} {l : Addr} {ws : List Wd} (h : WsAt K H l ws) : Dp K H (.ref l) (wsD ws) := by
  obtain ⟨ts, h1, h2⟩ := h
  refine .lst h1 ?_
  clear h1
  induction h2 with
  | nil => exact .nil
  | cons r t ih => exact .cons (wdD_dp r) ih
theorem wsD_sh {ws : List Wd} (h : ∀ x ∈ ws, x.ok) : SeqAt.shaped (wsD ws) = true := by
  have lay : ∀ l : List Wd, (∀ x ∈ l, x.ok) → PyData.canLayAll0 (l.map wdD) = true := by
    intro l
    induction l with
    | nil => intro _; rfl
    | cons x l ih =>
      intro h
      obtain ⟨_, _, _, _, _, _, _, _, ha⟩ := h x List.mem_cons_self
      simp only [List.map_cons, PyData.canLayAll0, wdD_lay ha, ih fun y hy => h y (List.mem_cons_of_mem _ hy), Bool.and_self]
  have dep : ∀ l : List Wd, PyData.depthAll (l.map wdD) ≤ 1 := by
    intro l
    induction l with
    | nil => simp [PyData.depthAll]
    | cons x l ih =>
      simp only [List.map_cons, PyData.depthAll, wdD_depth]
      omega
  unfold SeqAt.shaped wsD
  have e1 : (PyData.list (ws.map wdD)).canLay0 = true := by
    simp only [PyData.canLay0]
    exact lay ws h
  have e2 : (PyData.list (ws.map wdD)).depth ≤ 64 := by
    simp only [PyData.depth]
    have := dep ws
    omega
  rw [e1, decide_eq_true e2]
  rfl
/-- a list of ints -/
def isD (ns : List Int) : PyData := .list (ns.map PyData.int)
theorem int_eqv (a b : Int) : PyData.eqv (.int a) (.int b) = decide (a = b) := by
  have e : PyData.eqv (.int a) (.int b) = (a == b) := rfl
  rw [e, Bool.eq_iff_iff]
  simp
theorem isD_eqv (xs ys : List Int) : PyData.eqv (isD xs) (isD ys) = decide (xs = ys) := eqvAll_map int_eqv xs ys
theorem ints_dp {K : PySem.W.Frag} {H : Hp} : ∀ ns : List Int, DpAll K H (ns.map V.int) (ns.map PyData.int)
  | [] => .nil
  | n :: ns => .cons (.int n) (ints_dp ns)
theorem isD_dp {K : PySem.W.Frag} {H : Hp} {l : Addr} {ns : List Int} (h : SqL K H l (ns.map V.int)) : Dp K H (.ref l) (isD ns) := .lst h (ints_dp ns)
theorem ints_lay : ∀ ns : List Int, PyData.canLayAll0 (ns.map PyData.int) = true
  | [] => rfl
  | n :: ns => by simp only [List.map_cons, PyData.canLayAll0, PyData.canLay0, ints_lay ns, Bool.and_self]
theorem ints_depth : ∀ ns : List Int, PyData.depthAll (ns.map PyData.int) = 0
  | [] => rfl
  | n :: ns => by simp only [List.map_cons, PyData.depthAll, PyData.depth, ints_depth ns, Nat.max_self]
theorem isD_sh (ns : List Int) : SeqAt.shaped (isD ns) = true := by
  unfold SeqAt.shaped isD
  simp only [PyData.canLay0, ints_lay, PyData.depth, ints_depth]
  rfl
end CH
end

section
set_option Elab.async false
set_option linter.all false
namespace CH
open PySem PySem.Spec PyProof.Rows L2
instance (x : Wd) : Decidable x.ok := by unfold Wd.ok; exact inferInstance
instance (ws : List Wd) : Decidable (Alike ws) := by unfold Alike; exact inferInstance
theorem Kept.alike {qs : List (Addr × Wd)} {ws : List Wd} (k : Kept qs ws) : Alike ws := by
  intro a ha b hb h1 h2
  obtain ⟨p, hp, ep⟩ := List.mem_map.mp ((k.mem a).mpr ha)
  obtain ⟨q, hq, eq⟩ := List.mem_map.mp ((k.mem b).mpr hb)
  have e : kW p.2 = kW q.2 := by unfold kW; rw [ep, eq, h1, h2]
  have inj : ∀ (qs : List (Addr × Wd)), (qs.Pairwise fun a b => kW a.2 ≠ kW b.2) → p ∈ qs → q ∈ qs → p = q := by
    intro qs
    induction qs with
    | nil => exact fun _ h _ => absurd h (by simp)
    | cons x qs ih =>
      intro h hp hq
      obtain ⟨h3, h4⟩ := List.pairwise_cons.mp h
      rcases List.mem_cons.mp hp with ea | ea
      · rcases List.mem_cons.mp hq with eb | eb
        · rw [ea, eb]
        · exact absurd (ea ▸ e) (h3 q eb)
      · rcases List.mem_cons.mp hq with eb | eb
        · exact absurd (eb ▸ e).symm (h3 p ea)
        · exact ih h4 ea eb
  rw [← ep, ← eq, inj qs k.nd hp hq]
theorem at_small {α : Type} {xs : List α} {i : Int} (h0 : 0 ≤ i) (h1 : i < (xs.length : Int)) : ∃ v, atI xs i = some v ∧ v ∈ xs := by
  have e : i = ((i.toNat : Nat) : Int) := (Int.toNat_of_nonneg h0).symm
  have h2 : i.toNat < xs.length := by omega
  have z := atI_nat (List.getElem?_eq_getElem h2)
  rw [← e] at z
  exact ⟨_, z, List.getElem_mem h2⟩
/-- all of unlike count or hand -/
def Diff (ws : List Wd) : Prop := ws.Pairwise fun a b => kW a ≠ kW b
theorem Diff.alike {ws : List Wd} (h : Diff ws) : Alike ws := by
  intro a ha b hb h1 h2
  have e : kW a = kW b := by unfold kW; rw [h1, h2]
  induction ws with
  | nil => exact absurd ha (by simp)
  | cons x ws ih =>
    obtain ⟨h3, h4⟩ := List.pairwise_cons.mp h
    rcases List.mem_cons.mp ha with ea | ea
    · rcases List.mem_cons.mp hb with eb | eb
      · rw [ea, eb]
      · exact absurd (ea ▸ e) (h3 b eb)
    · rcases List.mem_cons.mp hb with eb | eb
      · exact absurd ((eb ▸ e).symm) (h3 a ea)
      · exact ih h4 ea eb
theorem cut63 {ns : List Int} (h : ns.length ≤ 63) : cutV (ns.map V.int) none (some 63) = ns.map V.int := by
  unfold cutV
  rw [HT.sIx_none, show HT.sIx (ns.map V.int).length (ns.map V.int).length (some 63) = min 63 (ns.map V.int).length from HT.sIx_nat _ _ 63]
  rw [List.length_map, List.drop_zero, Nat.min_eq_right (by omega), Nat.sub_zero]
  exact List.take_of_length_le (by rw [List.length_map]; exact Nat.le_refl _)
end CH
end

section
set_option Elab.async false
set_option linter.all false
set_option maxRecDepth 100000
namespace CH
open PySem PySem.Spec PyProof.Rows L2
/-! ### meetings -/
/-- people rise, from b + 1 on, to 7 -/
def Rise : Int → List Int → Prop
  | _, [] => True
  | b, n :: ns => b + 1 ≤ n ∧ n ≤ 7 ∧ Rise n ns
structure Mt where
  ps : List Int
  e : Int
  nds : List Int
structure Mt.ok (m : Mt) : Prop where
  p : Rise (-1) m.ps
  n : Rise (-1) m.nds
  e1 : 1 ≤ m.e
  e2 : m.e ≤ m.ps.length
  sub : ∀ x ∈ m.nds, x ∈ m.ps
/-- a meeting at a -/
structure MAt (K : PySem.W.Frag) (H : Hp) (a : Addr) (m : Mt) : Prop where
  ex : ∃ p n, SqT K H a [.ref p, .int m.e, .ref n] ∧ SqT K H p (m.ps.map V.int) ∧ SqT K H n (m.nds.map V.int)
theorem MAt.k {K : PySem.W.Frag} {H H' : Hp} {a : Addr} {m : Mt} (k : Kx H H') (h : MAt K H a m) : MAt K H' a m := by
  obtain ⟨p, n, h1, h2, h3⟩ := h.ex
  exact ⟨p, n, k.t h1, k.t h2, k.t h3⟩
theorem rise_len : ∀ {b : Int} {ns : List Int}, -1 ≤ b → Rise b ns → (ns.length : Int) ≤ 7 - b ∨ ns = []
  | _, [], _, _ => .inr rfl
  | b, n :: ns, hb, h => by
    obtain ⟨h1, h2, h3⟩ := h
    rcases rise_len (by omega) h3 with h | rfl
    · refine .inl ?_
      rw [List.length_cons]
      omega
    · refine .inl ?_
      show ((0 + 1 : Nat) : Int) ≤ 7 - b
      omega
theorem rise_len8 {ns : List Int} (h : Rise (-1) ns) : ns.length ≤ 8 := by
  rcases rise_len (by omega) h with h | rfl
  · omega
  · exact Nat.zero_le _
theorem rise_at : ∀ {b : Int} {ns : List Int} {i : Nat} {x : Int}, Rise b ns → ns[i]? = some x → (∀ y, (b :: ns)[i]? = some y → y + 1 ≤ x) ∧ x ≤ 7
  | b, n :: ns, 0, x, h, e => by
    cases e
    refine ⟨fun y hy => ?_, h.2.1⟩
    cases hy
    exact h.1
  | b, n :: ns, i + 1, x, h, e => by
    have e' : ns[i]? = some x := by simpa using e
    have ih := rise_at h.2.2 e'
    refine ⟨fun y hy => ih.1 y ?_, ih.2⟩
    simpa using hy
/-! ### answers -/
/-- the last word's answer -/
def lastA (us : List Wd) (p o : Int) : Option Str := us.foldl (fun b w => if w.p = p ∧ w.o = o then some w.a else b) none
theorem lastA_snoc (us : List Wd) (w : Wd) (p o : Int) : lastA (us ++ [w]) p o = if w.p = p ∧ w.o = o then some w.a else lastA us p o := by
  unfold lastA
  rw [List.foldl_append] <;> rfl
/-- the greatest word so far, for a person and an hour -/
def ple (a b : Wd) : Prop := a.c < b.c ∨ (a.c = b.c ∧ a.h ≤ b.h)
instance (a b : Wd) : Decidable (ple a b) := by unfold ple; exact inferInstance
/-- the word that counts -/
structure Best (ws : List Wd) (p o : Int) (x : Wd) : Prop where
  m : x ∈ ws
  ep : x.p = p
  eo : x.o = o
  top : ∀ y ∈ ws, y.p = p → y.o = o → ple y x
/-- the answer that counts, if there is a word -/
def IsAns (ws : List Wd) (p o : Int) (r : Option Str) : Prop := (∃ x, Best ws p o x ∧ r = some x.a) ∨ ((∀ y ∈ ws, ¬ (y.p = p ∧ y.o = o)) ∧ r = none)
theorem best_uniq {ws : List Wd} {p o : Int} {x y : Wd} (al : Alike ws) (h1 : Best ws p o x) (h2 : Best ws p o y) : x = y := by
  have a := h1.top y h2.m h2.ep h2.eo
  have b := h2.top x h1.m h1.ep h1.eo
  unfold ple at a b
  exact al x h1.m y h2.m (by omega) (by omega)
theorem isAns_uniq {ws : List Wd} {p o : Int} {r s : Option Str} (al : Alike ws) (h1 : IsAns ws p o r) (h2 : IsAns ws p o s) : r = s := by
  rcases h1 with ⟨x, hx, rfl⟩ | ⟨hn, rfl⟩
  · rcases h2 with ⟨y, hy, rfl⟩ | ⟨hn, rfl⟩
    · rw [best_uniq al hx hy]
    · exact absurd ⟨hx.ep, hx.eo⟩ (hn x hx.m)
  · rcases h2 with ⟨y, hy, rfl⟩ | ⟨_, rfl⟩
    · exact absurd ⟨hy.ep, hy.eo⟩ (hn y hy.m)
    · rfl
theorem lastA_is {us : List Wd} (h : us.Pairwise plt) (p o : Int) : IsAns us p o (lastA us p o) := by
  have key : ∀ n, ∀ us : List Wd, us.length = n → us.Pairwise plt → IsAns us p o (lastA us p o) := by
    intro n
    induction n with
    | zero =>
      intro us e _
      have e0 : us = [] := List.eq_nil_of_length_eq_zero e
      subst e0
      exact .inr ⟨fun y hy => absurd hy (by simp), rfl⟩
    | succ n ih =>
      intro us e hp
      have hne : us ≠ [] := fun z => by rw [z] at e; cases e
      obtain ⟨vs, w, rfl⟩ : ∃ vs w, us = vs ++ [w] := ⟨us.dropLast, us.getLast hne, (List.dropLast_concat_getLast hne).symm⟩
      have hl : vs.length = n := by
        rw [List.length_append] at e
        exact Nat.succ.inj e
      obtain ⟨h1, _, h3⟩ := List.pairwise_append.mp hp
      have ih := ih vs hl h1
      rw [lastA_snoc]
      by_cases hw : w.p = p ∧ w.o = o
      · rw [if_pos hw]
        refine .inl ⟨w, ⟨by simp, hw.1, hw.2, fun y hy _ _ => ?_⟩, rfl⟩
        rcases List.mem_append.mp hy with hy | hy
        · have q := h3 y hy w (by simp)
          unfold plt at q
          unfold ple
          omega
        · rw [List.mem_singleton.mp hy]
          unfold ple
          omega
      · rw [if_neg hw]
        rcases ih with ⟨x, hx, ex⟩ | ⟨hn, ex⟩
        · refine .inl ⟨x, ⟨List.mem_append_left _ hx.m, hx.ep, hx.eo, fun y hy e1 e2 => ?_⟩, ex⟩
          rcases List.mem_append.mp hy with hy | hy
          · exact hx.top y hy e1 e2
          · rw [List.mem_singleton.mp hy] at e1 e2
            exact absurd ⟨e1, e2⟩ hw
        · refine .inr ⟨fun y hy => ?_, ex⟩
          rcases List.mem_append.mp hy with hy | hy
          · exact hn y hy
          · rw [List.mem_singleton.mp hy]
            exact hw
  exact key _ us rfl h
theorem isAns_once {ws us : List Wd} {p o : Int} {r : Option Str} (ho : Once ws us) (h : IsAns us p o r) : IsAns ws p o r := by
  rcases h with ⟨x, hx, e⟩ | ⟨hn, e⟩
  · exact .inl ⟨x, ⟨(ho.mem x).mp hx.m, hx.ep, hx.eo, fun y hy => hx.top y ((ho.mem y).mpr hy)⟩, e⟩
  · exact .inr ⟨fun y hy => hn y ((ho.mem y).mpr hy), e⟩
def pleO (b : Option Wd) (w : Wd) : Prop := match b with
  | some x => ple x w
  | none => True
instance (b : Option Wd) (w : Wd) : Decidable (pleO b w) := by
  cases b with
  | none => exact isTrue trivial
  | some x => exact (inferInstance : Decidable (ple x w))
/-- the law's own way: the words as they come -/
def bestW (ws : List Wd) (p o : Int) : Option Wd := ws.foldl (fun b w => if w.p = p ∧ w.o = o ∧ pleO b w then some w else b) none
theorem bestW_snoc (us : List Wd) (w : Wd) (p o : Int) : bestW (us ++ [w]) p o = if w.p = p ∧ w.o = o ∧ pleO (bestW us p o) w then some w else bestW us p o := by
  unfold bestW
  rw [List.foldl_append]
  rfl
def ansW (ws : List Wd) (p o : Int) : Option Str := (bestW ws p o).map (·.a)
theorem bestW_is (p o : Int) : ∀ ws : List Wd, match bestW ws p o with
    | some x => Best ws p o x
    | none => ∀ y ∈ ws, ¬ (y.p = p ∧ y.o = o) := by
  have key : ∀ n, ∀ us : List Wd, us.length = n → match bestW us p o with
    | some x => Best us p o x
    | none => ∀ y ∈ us, ¬ (y.p = p ∧ y.o = o) := by
    intro n
    induction n with
    | zero =>
      intro us e
      have e0 : us = [] := List.eq_nil_of_length_eq_zero e
      subst e0
      show ∀ y ∈ ([] : List Wd), ¬ (y.p = p ∧ y.o = o)
      exact fun y hy => absurd hy (by simp)
    | succ n ih =>
      intro us e
      have hne : us ≠ [] := fun z => by rw [z] at e; cases e
      obtain ⟨vs, w, rfl⟩ : ∃ vs w, us = vs ++ [w] := ⟨us.dropLast, us.getLast hne, (List.dropLast_concat_getLast hne).symm⟩
      have hl : vs.length = n := by
        rw [List.length_append] at e
        exact Nat.succ.inj e
      have ih := ih vs hl
      rw [bestW_snoc]
      cases hb : bestW vs p o with
      | none =>
        rw [hb] at ih
        have ih : ∀ y ∈ vs, ¬ (y.p = p ∧ y.o = o) := ih
        by_cases hw : w.p = p ∧ w.o = o
        · rw [if_pos ⟨hw.1, hw.2, trivial⟩]
          refine (⟨by simp, hw.1, hw.2, fun y hy e1 e2 => ?_⟩ : Best (vs ++ [w]) p o w)
          rcases List.mem_append.mp hy with hy | hy
          · exact absurd ⟨e1, e2⟩ (ih y hy)
          · rw [List.mem_singleton.mp hy]
            unfold ple
            omega
        · rw [if_neg (fun z => hw ⟨z.1, z.2.1⟩)]
          show ∀ y ∈ vs ++ [w], ¬ (y.p = p ∧ y.o = o)
          intro y hy
          rcases List.mem_append.mp hy with hy | hy
          · exact ih y hy
          · rw [List.mem_singleton.mp hy]
            exact hw
      | some x =>
        rw [hb] at ih
        have ih : Best vs p o x := ih
        by_cases hw : w.p = p ∧ w.o = o ∧ pleO (some x) w
        · rw [if_pos hw]
          refine (⟨by simp, hw.1, hw.2.1, fun y hy e1 e2 => ?_⟩ : Best (vs ++ [w]) p o w)
          rcases List.mem_append.mp hy with hy | hy
          · have a := ih.top y hy e1 e2
            have b : ple x w := hw.2.2
            unfold ple at a b ⊢
            omega
          · rw [List.mem_singleton.mp hy]
            unfold ple
            omega
        · rw [if_neg hw]
          refine (⟨List.mem_append_left _ ih.m, ih.ep, ih.eo, fun y hy e1 e2 => ?_⟩ : Best (vs ++ [w]) p o x)
          rcases List.mem_append.mp hy with hy | hy
          · exact ih.top y hy e1 e2
          · rw [List.mem_singleton.mp hy] at e1 e2 ⊢
            have z : ¬ ple x w := fun z => hw ⟨e1, e2, z⟩
            unfold ple at z ⊢
            omega
  exact fun ws => key _ ws rfl
theorem ansW_is (ws : List Wd) (p o : Int) : IsAns ws p o (ansW ws p o) := by
  have h := bestW_is p o ws
  unfold ansW
  cases hb : bestW ws p o with
  | some x =>
    rw [hb] at h
    exact .inl ⟨x, h, rfl⟩
  | none =>
    rw [hb] at h
    exact .inr ⟨h, rfl⟩
/-- both ways give the same -/
theorem lastA_eq {ws us : List Wd} (al : Alike ws) (ho : Once ws us) (p o : Int) : lastA us p o = ansW ws p o :=
  isAns_uniq al (isAns_once ho (lastA_is ho.ord p o)) (ansW_is ws p o)
theorem filter_snoc {α : Type} (p : α → Bool) (l : List α) (x : α) : (l ++ [x]).filter p = l.filter p ++ if p x = true then [x] else [] := by
  rw [List.filter_append]
  congr 1
  by_cases h : p x = true
  · rw [List.filter_cons_of_pos h, if_pos h] <;> rfl
  · rw [List.filter_cons_of_neg h, if_neg h] <;> rfl
theorem nodup_sub_len {α : Type} [DecidableEq α] : ∀ {us ws : List α}, us.Nodup → (∀ x ∈ us, x ∈ ws) → us.length ≤ ws.length
  | [], _, _, _ => Nat.zero_le _
  | x :: us, ws, nd, h => by
    obtain ⟨h1, h2⟩ := List.nodup_cons.mp nd
    have hx : x ∈ ws := h x List.mem_cons_self
    have ih := nodup_sub_len (ws := ws.erase x) h2 fun y hy => by
      have ne : y ≠ x := fun e => h1 (e ▸ hy)
      exact (List.mem_erase_of_ne ne).mpr (h y (List.mem_cons_of_mem _ hy))
    have el := List.length_erase_of_mem hx
    have pos : 0 < ws.length := List.length_pos_of_mem hx
    rw [List.length_cons]
    omega
theorem once_len {ws us : List Wd} (h : Once ws us) : us.length ≤ ws.length := by
  have nd : us.Nodup := h.ord.imp fun {a b} z e => by
    subst e
    unfold plt at z
    omega
  exact nodup_sub_len nd fun x hx => (h.mem x).mp hx
/-! ### hours -/
def comeL (ps : List Int) (cs : List Str) (f : Int → Str) : List Int := ps.filter fun x => decide (f x ∈ cs)
def canB (m : Mt) (cs : List Str) (f : Int → Str) : Bool := decide (m.e ≤ (comeL m.ps cs f).length) && m.nds.all fun x => decide (x ∈ comeL m.ps cs f)
def hoursL (m : Mt) (cs : List Str) (F : Int → Int → Str) : List Int := ((List.range 12).filter fun o => canB m cs fun x => F x (Int.ofNat o)).map Int.ofNat
def ansF (ws : List Wd) (p o : Int) : Str := (ansW ws p o).getD "no"
end CH
end

section
set_option Elab.async false
set_option linter.all false
set_option maxRecDepth 100000
namespace CH
open PySem PySem.Spec PyProof.Rows L2
/-- a change of the answers alone -/
structure Same (g : Wd → Wd) : Prop where
  c : ∀ x, (g x).c = x.c
  h : ∀ x, (g x).h = x.h
  p : ∀ x, (g x).p = x.p
  o : ∀ x, (g x).o = x.o
theorem Same.kW {g : Wd → Wd} (s : Same g) (x : Wd) : kW (g x) = kW x := by
  unfold CH.kW
  rw [s.c, s.h]
theorem Same.ple {g : Wd → Wd} (s : Same g) (b : Option Wd) (x : Wd) : pleO (b.map g) (g x) ↔ pleO b x := by
  cases b with
  | none => exact Iff.rfl
  | some y =>
    show CH.ple (g y) (g x) ↔ CH.ple y x
    unfold CH.ple
    rw [s.c, s.c, s.h, s.h]
theorem bestW_map {g : Wd → Wd} (s : Same g) (p o : Int) (ws : List Wd) : bestW (ws.map g) p o = (bestW ws p o).map g := by
  unfold bestW
  have key : ∀ (ws : List Wd) (b : Option Wd), (ws.map g).foldl (fun b w => if w.p = p ∧ w.o = o ∧ pleO b w then some w else b) (b.map g) = (ws.foldl (fun b w => if w.p = p ∧ w.o = o ∧ pleO b w then some w else b) b).map g := by
    intro ws
    induction ws with
    | nil => exact fun b => rfl
    | cons x ws ih =>
      intro b
      rw [List.map_cons, List.foldl_cons, List.foldl_cons, ← ih]
      congr 1
      by_cases h : x.p = p ∧ x.o = o ∧ pleO b x
      · rw [if_pos h, if_pos ⟨(s.p x).trans h.1, (s.o x).trans h.2.1, (s.ple b x).mpr h.2.2⟩] <;> rfl
      · rw [if_neg h, if_neg fun z => h ⟨(s.p x).symm.trans z.1, (s.o x).symm.trans z.2.1, (s.ple b x).mp z.2.2⟩]
  exact key ws none
/-- maybe is taken for yes -/
def sureA (a : Str) : Str := if a = "maybe" then "yes" else a
def sureW (x : Wd) : Wd := { x with a := sureA x.a }
theorem sureW_same : Same sureW := ⟨fun _ => rfl, fun _ => rfl, fun _ => rfl, fun _ => rfl⟩
theorem ansF_sure (ws : List Wd) (p o : Int) : ansF (ws.map sureW) p o = sureA (ansF ws p o) := by
  unfold ansF ansW
  rw [bestW_map sureW_same]
  cases bestW ws p o with
  | none =>
    show (Str.ofString "no") = sureA "no"
    unfold sureA
    rw [if_neg (by decide)]
  | some x => rfl
theorem sureA_mem (a : Str) : sureA a ∈ (["yes"] : List Str) ↔ a ∈ (["yes", "maybe"] : List Str) := by
  unfold sureA
  by_cases h : a = "maybe"
  · rw [if_pos h]
    subst h
    simp
  · rw [if_neg h]
    simp [h]
theorem comeL_congr {ps : List Int} {cs ds : List Str} {f g : Int → Str} (h : ∀ x, decide (f x ∈ cs) = decide (g x ∈ ds)) : comeL ps cs f = comeL ps ds g := by
  unfold comeL
  congr 1
  funext x
  exact h x
theorem hours_sure (m : Mt) (ws : List Wd) : hoursL m ["yes"] (ansF (ws.map sureW)) = hoursL m ["yes", "maybe"] (ansF ws) := by
  unfold hoursL canB
  congr 2
  funext o
  rw [comeL_congr (cs := ["yes"]) (ds := ["yes", "maybe"]) (f := fun x => ansF (ws.map sureW) x (Int.ofNat o)) (g := fun x => ansF ws x (Int.ofNat o)) fun x => by
    rw [ansF_sure]
    exact decide_eq_decide.mpr (sureA_mem _)]
theorem filter_le {α : Type} {p q : α → Bool} (h : ∀ x, p x = true → q x = true) : ∀ l : List α, (l.filter p).length ≤ (l.filter q).length
  | [] => Nat.le_refl _
  | x :: l => by
    have ih := filter_le h l
    rw [List.filter_cons, List.filter_cons]
    by_cases e : p x = true
    · rw [if_pos e, if_pos (h x e), List.length_cons, List.length_cons]
      omega
    · rw [if_neg e]
      split
      · rw [List.length_cons]
        omega
      · exact ih
theorem hours_sub (m : Mt) (F : Int → Int → Str) : ∀ x ∈ hoursL m ["yes"] F, x ∈ hoursL m ["yes", "maybe"] F := by
  have mono : ∀ (f : Int → Str) (x : Int), decide (f x ∈ (["yes"] : List Str)) = true → decide (f x ∈ (["yes", "maybe"] : List Str)) = true := fun f x h => by
    have h := of_decide_eq_true h
    refine decide_eq_true ?_
    rw [List.mem_singleton.mp h]
    exact .head _
  intro x hx
  unfold hoursL at hx ⊢
  obtain ⟨o, ho, rfl⟩ := List.mem_map.mp hx
  refine List.mem_map.mpr ⟨o, ?_, rfl⟩
  obtain ⟨h1, h2⟩ := List.mem_filter.mp ho
  refine List.mem_filter.mpr ⟨h1, ?_⟩
  unfold canB at h2 ⊢
  simp only [Bool.and_eq_true, decide_eq_true_eq, List.all_eq_true] at h2 ⊢
  refine ⟨?_, fun y hy => ?_⟩
  · have h3 := h2.1
    have h4 : (comeL m.ps ["yes"] fun x => F x (Int.ofNat o)).length ≤ (comeL m.ps ["yes", "maybe"] fun x => F x (Int.ofNat o)).length := filter_le (mono fun x => F x (Int.ofNat o)) m.ps
    omega
  · have h3 := h2.2 y hy
    unfold comeL at h3 ⊢
    obtain ⟨h4, h5⟩ := List.mem_filter.mp h3
    exact List.mem_filter.mpr ⟨h4, mono (fun x => F x (Int.ofNat o)) y h5⟩
theorem sureW_ok {x : Wd} (h : x.ok) : (sureW x).ok := by
  obtain ⟨h1, h2, h3, h4, h5, h6, h7, h8, h9⟩ := h
  refine ⟨h1, h2, h3, h4, h5, h6, h7, h8, ?_⟩
  show sureA x.a ∈ ansL
  unfold sureA
  split
  · unfold ansL
    exact .head _
  · exact h9
/-- two lists of ints -/
def is2D (a b : List Int) : PyData := .list [isD a, isD b]
theorem is2D_eqv (a b : List Int) : PyData.eqv (is2D a b) (is2D a b) = true := by
  have e : PyData.eqv (is2D a b) (is2D a b) = decide ([a, b] = [a, b]) := eqvAll_map isD_eqv [a, b] [a, b]
  rw [e]
  exact decide_eq_true rfl
theorem is2D_sh (a b : List Int) : SeqAt.shaped (is2D a b) = true := by
  unfold SeqAt.shaped is2D isD
  simp only [PyData.canLay0, PyData.canLayAll0, ints_lay, PyData.depth, PyData.depthAll, ints_depth]
  rfl
theorem is2D_dp {K : PySem.W.Frag} {H : Hp} {l p q : Addr} {a b : List Int} (h : SqL K H l [.ref p, .ref q]) (hp : SqL K H p (a.map V.int)) (hq : SqL K H q (b.map V.int)) : Dp K H (.ref l) (is2D a b) :=
  .lst h (.cons (isD_dp hp) (.cons (isD_dp hq) .nil))
theorem hoursL_len (m : Mt) (cs : List Str) (F : Int → Int → Str) : (hoursL m cs F).length ≤ 12 := by
  unfold hoursL
  rw [List.length_map]
  exact List.length_filter_le _ _
end CH
end

section
set_option Elab.async false
set_option linter.all false
set_option maxRecDepth 100000
namespace CH
open PySem PySem.Spec PyProof.Rows L2
theorem plt_irr {a : Wd} : ¬ plt a a := fun h => by unfold plt at h; omega
theorem plt_asym {a b : Wd} (h : plt a b) : ¬ plt b a := fun g => by unfold plt at h g; omega
theorem pw_uniq : ∀ {us vs : List Wd}, us.Pairwise plt → vs.Pairwise plt → (∀ x, x ∈ us ↔ x ∈ vs) → us = vs
  | [], [], _, _, _ => rfl
  | [], v :: vs, _, _, m => absurd ((m v).mpr (.head _)) (by simp)
  | u :: us, [], _, _, m => absurd ((m u).mp (.head _)) (by simp)
  | u :: us, v :: vs, h1, h2, m => by
    obtain ⟨a1, a2⟩ := List.pairwise_cons.mp h1
    obtain ⟨b1, b2⟩ := List.pairwise_cons.mp h2
    have e : u = v := by
      rcases List.mem_cons.mp ((m u).mp (.head _)) with h | h
      · exact h
      · rcases List.mem_cons.mp ((m v).mpr (.head _)) with g | g
        · exact g.symm
        · exact absurd (b1 u h) (plt_asym (a1 v g))
    subst e
    rw [pw_uniq a2 b2 fun x => ⟨fun hx => ?_, fun hx => ?_⟩]
    · rcases List.mem_cons.mp ((m x).mp (.tail _ hx)) with h | h
      · rw [h] at hx
        exact absurd (a1 u hx) plt_irr
      · exact h
    · rcases List.mem_cons.mp ((m x).mpr (.tail _ hx)) with h | h
      · rw [h] at hx
        exact absurd (b1 u hx) plt_irr
      · exact h
theorem once_uniq {ws us vs : List Wd} (h1 : Once ws us) (h2 : Once ws vs) : us = vs := pw_uniq h1.ord h2.ord fun x => (h1.mem x).trans (h2.mem x).symm
theorem once_mem {ws us vs : List Wd} (h : Once ws vs) (m : ∀ x, x ∈ us ↔ x ∈ ws) : Once us vs := ⟨fun x => (h.mem x).trans (m x).symm, h.ord⟩
theorem isAns_mem {ws us : List Wd} {p o : Int} {r : Option Str} (m : ∀ x, x ∈ us ↔ x ∈ ws) (h : IsAns us p o r) : IsAns ws p o r := by
  rcases h with ⟨x, hx, e⟩ | ⟨hn, e⟩
  · exact .inl ⟨x, ⟨(m x).mp hx.m, hx.ep, hx.eo, fun y hy => hx.top y ((m y).mpr hy)⟩, e⟩
  · exact .inr ⟨fun y hy => hn y ((m y).mpr hy), e⟩
theorem ansF_mem {ws us : List Wd} (al : Alike ws) (m : ∀ x, x ∈ us ↔ x ∈ ws) : ansF us = ansF ws := by
  funext p o
  unfold ansF
  rw [isAns_uniq al (isAns_mem m (ansW_is us p o)) (ansW_is ws p o)]
theorem tat_qs {H : Hp} : ∀ {ts : List Addr} {ws : List Wd}, TAt H ts ws → ∃ qs : List (Addr × Wd), qs.map (·.1) = ts ∧ qs.map (·.2) = ws ∧ PAt H qs
  | _, _, .nil => ⟨[], rfl, rfl, fun _ h => absurd h (by simp)⟩
  | t :: _, x :: _, .cons a p => by
    obtain ⟨qs, h1, h2, h3⟩ := tat_qs p
    refine ⟨(t, x) :: qs, by rw [List.map_cons, h1], by rw [List.map_cons, h2], fun q hq => ?_⟩
    rcases List.mem_cons.mp hq with rfl | hq
    · exact a
    · exact h3 q hq
theorem tat_take {H : Hp} : ∀ {ts : List Addr} {ws : List Wd} (n : Nat), TAt H ts ws → TAt H (ts.take n) (ws.take n)
  | _, _, 0, _ => by rw [List.take_zero, List.take_zero]; exact .nil
  | _, _, _ + 1, .nil => .nil
  | _, _, n + 1, .cons a p => .cons a (tat_take n p)
theorem tat_drop {H : Hp} : ∀ {ts : List Addr} {ws : List Wd} (n : Nat), TAt H ts ws → TAt H (ts.drop n) (ws.drop n)
  | _, _, 0, h => h
  | _, _, _ + 1, .nil => .nil
  | _, _, n + 1, .cons _ p => tat_drop n p
theorem tat_apps {H : Hp} {ts rs : List Addr} {ws us : List Wd} (h1 : TAt H ts ws) (h2 : TAt H rs us) : TAt H (ts ++ rs) (ws ++ us) := by
  unfold TAt at h1 h2 ⊢
  induction h1 with
  | nil => exact h2
  | cons a _ ih => exact .cons a ih
theorem tat_rev {H : Hp} : ∀ {ts : List Addr} {ws : List Wd}, TAt H ts ws → TAt H ts.reverse ws.reverse
  | _, _, .nil => .nil
  | _, _, .cons a p => by
    rw [List.reverse_cons, List.reverse_cons]
    exact tat_apps (tat_rev p) (.cons a .nil)
theorem kept_of {qs : List (Addr × Wd)} (h : (qs.map (·.2)).Pairwise fun a b => kW a ≠ kW b) : Kept qs (qs.map (·.2)) := ⟨fun x => Iff.rfl, by rw [List.pairwise_map] at h; exact h⟩
theorem cut_take {ts : List Addr} {n : Nat} : cutV (ts.map V.ref) none (some (n : Int)) = (ts.take n).map V.ref := by
  unfold cutV
  rw [HT.sIx_none, show HT.sIx (ts.map V.ref).length (ts.map V.ref).length (some (n : Int)) = min n (ts.map V.ref).length from HT.sIx_nat _ _ n]
  rw [List.drop_zero, Nat.sub_zero, List.map_take]
  by_cases h : n ≤ (ts.map V.ref).length
  · rw [Nat.min_eq_left h]
  · rw [Nat.min_eq_right (by omega), List.take_of_length_le (Nat.le_refl _), List.take_of_length_le (by omega)]
theorem cut_drop {ts : List Addr} {n : Nat} (h : n ≤ ts.length) : cutV (ts.map V.ref) (some (n : Int)) none = (ts.drop n).map V.ref := by
  unfold cutV
  rw [HT.sIx_none, show HT.sIx (ts.map V.ref).length 0 (some (n : Int)) = min n (ts.map V.ref).length from HT.sIx_nat _ _ n]
  rw [Nat.min_eq_left (by rw [List.length_map]; exact h), List.map_drop]
  exact List.take_of_length_le (by rw [List.length_drop]; exact Nat.le_refl _)
theorem diff_len {ws us : List Wd} (d : Diff ws) (h : Once ws us) : us.length = ws.length := by
  have n1 : us.Nodup := h.ord.imp fun {a b} z e => by
    subst e
    exact plt_irr z
  have n2 : ws.Nodup := List.Pairwise.imp (fun {a b} z e => z (by rw [e])) d
  exact ((List.perm_ext_iff_of_nodup n1 n2).mpr h.mem).length_eq
theorem once_part {ws us vs : List Wd} (h : Once ws us) (m : ∀ x ∈ vs, x ∈ ws) : Once vs (us.filter fun x => decide (x ∈ vs)) :=
  ⟨fun x => by
    rw [List.mem_filter, decide_eq_true_eq]
    exact ⟨fun z => z.2, fun z => ⟨(h.mem x).mpr (m x z), z⟩⟩, h.ord.filter _⟩
theorem alike_sub {ws us : List Wd} (al : Alike ws) (m : ∀ x ∈ us, x ∈ ws) : Alike us := fun a ha b hb => al a (m a ha) b (m b hb)
/-- two lists of words -/
def ws2D (a b : List Wd) : PyData := .list [wsD a, wsD b]
theorem ws2D_eqv (a b : List Wd) : PyData.eqv (ws2D a b) (ws2D a b) = true := by
  have e : PyData.eqv (ws2D a b) (ws2D a b) = decide ([a, b] = [a, b]) := eqvAll_map wsD_eqv [a, b] [a, b]
  rw [e]
  exact decide_eq_true rfl
theorem wds_lay : ∀ l : List Wd, (∀ x ∈ l, x.ok) → PyData.canLayAll0 (l.map wdD) = true
  | [], _ => rfl
  | x :: l, h => by
    obtain ⟨_, _, _, _, _, _, _, _, ha⟩ := h x List.mem_cons_self
    simp only [List.map_cons, PyData.canLayAll0, wdD_lay ha, wds_lay l fun y hy => h y (List.mem_cons_of_mem _ hy), Bool.and_self]
theorem wds_dep : ∀ l : List Wd, PyData.depthAll (l.map wdD) ≤ 1
  | [] => by simp [PyData.depthAll]
  | x :: l => by
    have ih := wds_dep l
    simp only [List.map_cons, PyData.depthAll, wdD_depth]
    omega
theorem ws2D_sh {a b : List Wd} (ha : ∀ x ∈ a, x.ok) (hb : ∀ x ∈ b, x.ok) : SeqAt.shaped (ws2D a b) = true := by
  unfold SeqAt.shaped ws2D wsD
  have e1 : (PyData.list [.list (a.map wdD), .list (b.map wdD)]).canLay0 = true := by
    simp only [PyData.canLay0, PyData.canLayAll0, wds_lay a ha, wds_lay b hb, Bool.and_self]
  have e2 : (PyData.list [.list (a.map wdD), .list (b.map wdD)]).depth ≤ 64 := by
    have := wds_dep a
    have := wds_dep b
    simp only [PyData.depth, PyData.depthAll]
    omega
  rw [e1, decide_eq_true e2]
  rfl
theorem ws2D_dp {K : PySem.W.Frag} {H : Hp} {l p q : Addr} {a b : List Wd} (h : SqL K H l [.ref p, .ref q]) (hp : WsAt K H p a) (hq : WsAt K H q b) : Dp K H (.ref l) (ws2D a b) :=
  .lst h (.cons (wsD_dp hp) (.cons (wsD_dp hq) .nil))
end CH
end

section
set_option Elab.async false
set_option linter.all false
set_option maxRecDepth 100000
/-! words sorted, alike ones left in -/
namespace CH
open PySem PySem.Spec PyProof.Rows L2
theorem srt_of {H : Hp} {qs : List (Addr × Wd)} {ts' : List Addr} (hp : PAt H qs) (p : ts'.Perm (qs.map (·.1))) (s : ts'.Pairwise fun x y => HT.lexLt (keyOf (wkOf H) y) (keyOf (wkOf H) x) = false) :
    ∃ us, TAt H ts' us ∧ us.Perm (qs.map (·.2)) ∧ us.Pairwise ple := by
  obtain ⟨rs, pr, er⟩ := perm_lift (fun q : Addr × Wd => q.1) p qs rfl
  subst er
  have hr : ∀ q ∈ rs, H q.1 = some (.tup q.2.V) := fun q hq => hp q (pr.mem_iff.mp hq)
  refine ⟨rs.map (·.2), ?_, pr.map _, ?_⟩
  · have all : ∀ l : List (Addr × Wd), (∀ q ∈ l, H q.1 = some (.tup q.2.V)) → TAt H (l.map (·.1)) (l.map (·.2)) := by
      intro l
      induction l with
      | nil => intro _; exact .nil
      | cons q l ih => intro h; exact .cons (h q List.mem_cons_self) (ih fun p hp => h p (List.mem_cons_of_mem _ hp))
    exact all rs hr
  · rw [List.pairwise_map] at s ⊢
    refine List.Pairwise.imp_of_mem (fun {a b} ha hb h => ?_) s
    have ea := wkOf_eq (hr a ha)
    have eb := wkOf_eq (hr b hb)
    have h1' : HT.lexLt (wkey b.2.ints b.2.a) (wkey a.2.ints a.2.a) = false := by
      have z : HT.lexLt (keyOf (wkOf H) b.1) (keyOf (wkOf H) a.1) = false := h
      unfold keyOf at z
      rw [ea, eb] at z
      exact z
    have h1'' : HT.lexLt (b.2.c :: b.2.h :: b.2.p :: b.2.o :: strInts b.2.a) (a.2.c :: a.2.h :: a.2.p :: a.2.o :: strInts a.2.a) = false := h1'
    rw [HT.lexLt_cons] at h1''
    by_cases e : b.2.c = a.2.c
    · rw [if_pos e, HT.lexLt_cons] at h1''
      by_cases e2 : b.2.h = a.2.h
      · exact .inr ⟨e.symm, by omega⟩
      · rw [if_neg e2] at h1''
        have := of_decide_eq_false h1''
        exact .inr ⟨e.symm, by omega⟩
    · rw [if_neg e] at h1''
      have := of_decide_eq_false h1''
      exact .inl (by omega)
theorem lastA_isW {us : List Wd} (h : us.Pairwise ple) (p o : Int) : IsAns us p o (lastA us p o) := by
  have key : ∀ n, ∀ us : List Wd, us.length = n → us.Pairwise ple → IsAns us p o (lastA us p o) := by
    intro n
    induction n with
    | zero =>
      intro us e _
      have e0 : us = [] := List.eq_nil_of_length_eq_zero e
      subst e0
      exact .inr ⟨fun y hy => absurd hy (by simp), rfl⟩
    | succ n ih =>
      intro us e hp
      have hne : us ≠ [] := fun z => by rw [z] at e; cases e
      obtain ⟨vs, w, rfl⟩ : ∃ vs w, us = vs ++ [w] := ⟨us.dropLast, us.getLast hne, (List.dropLast_concat_getLast hne).symm⟩
      have hl : vs.length = n := by
        rw [List.length_append] at e
        exact Nat.succ.inj e
      obtain ⟨h1, _, h3⟩ := List.pairwise_append.mp hp
      have ih := ih vs hl h1
      rw [lastA_snoc]
      by_cases hw : w.p = p ∧ w.o = o
      · rw [if_pos hw]
        refine .inl ⟨w, ⟨by simp, hw.1, hw.2, fun y hy _ _ => ?_⟩, rfl⟩
        rcases List.mem_append.mp hy with hy | hy
        · have q := h3 y hy w (by simp)
          exact q
        · rw [List.mem_singleton.mp hy]
          unfold ple
          omega
      · rw [if_neg hw]
        rcases ih with ⟨x, hx, ex⟩ | ⟨hn, ex⟩
        · refine .inl ⟨x, ⟨List.mem_append_left _ hx.m, hx.ep, hx.eo, fun y hy e1 e2 => ?_⟩, ex⟩
          rcases List.mem_append.mp hy with hy | hy
          · exact hx.top y hy e1 e2
          · rw [List.mem_singleton.mp hy] at e1 e2
            exact absurd ⟨e1, e2⟩ hw
        · refine .inr ⟨fun y hy => ?_, ex⟩
          rcases List.mem_append.mp hy with hy | hy
          · exact hn y hy
          · rw [List.mem_singleton.mp hy]
            exact hw
  exact key _ us rfl h
theorem lastA_srt {ws us : List Wd} (al : Alike ws) (pm : us.Perm ws) (hs : us.Pairwise ple) (p o : Int) : lastA us p o = ansW ws p o :=
  isAns_uniq al (isAns_mem (fun x => pm.mem_iff) (lastA_isW hs p o)) (ansW_is ws p o)
end CH
end

section
set_option Elab.async false
set_option linter.all false
set_option maxRecDepth 100000
/-! lemmas that the program's own defs lean on -/
namespace CH
open PySem PySem.Spec PyProof.Rows L2
open GxR (TabB TabG Tabbed)
theorem inV_str {x : Str} : ∀ xs : List Str, inV (.str x) (xs.map V.str) = decide (x ∈ xs)
  | [] => by simp [inV]
  | y :: ys => by
    have ih := inV_str (x := x) ys
    have e : inV (.str x) ((y :: ys).map V.str) = (decide (y = x) || inV (.str x) (ys.map V.str)) := rfl
    rw [e, ih]
    by_cases h : y = x
    · subst h; simp
    · have h' : ¬ x = y := fun z => h z.symm
      simp [h, h']
theorem flat_str : ∀ xs : List Str, (xs.map V.str).all flatV = true
  | [] => rfl
  | _ :: xs => flat_str xs
theorem flat_int : ∀ xs : List Int, (xs.map V.int).all flatV = true
  | [] => rfl
  | _ :: xs => flat_int xs
theorem blT {p : Prop} [Decidable p] (h : p) : V.bl (decide p) = V.bl true := by rw [decide_eq_true h]
theorem blF {p : Prop} [Decidable p] (h : ¬ p) : V.bl (decide p) = V.bl false := by rw [decide_eq_false h]
theorem cut2 (w : Wd) : cutV w.V none (some 2) = (kW w).map kV := by
  unfold cutV
  rw [HT.sIx_none, show HT.sIx w.V.length w.V.length (some 2) = min 2 w.V.length from HT.sIx_nat w.V.length w.V.length 2]
  rfl
theorem not_whole2 (w : Wd) : ¬ (HT.sIx w.V.length 0 none = 0 ∧ HT.sIx w.V.length w.V.length (some 2) = w.V.length) := by
  rw [show HT.sIx w.V.length w.V.length (some 2) = min 2 w.V.length from HT.sIx_nat w.V.length w.V.length 2]
  intro h
  have h2 : (2 : Nat) = 5 := h.2
  exact absurd h2 (by decide)
theorem inV_int {x : Int} : ∀ xs : List Int, inV (.int x) (xs.map V.int) = decide (x ∈ xs)
  | [] => by simp [inV]
  | y :: ys => by
    have ih := inV_int (x := x) ys
    have e : inV (.int x) ((y :: ys).map V.int) = (decide (y = x) || inV (.int x) (ys.map V.int)) := rfl
    rw [e, ih]
    by_cases h : y = x
    · subst h; simp
    · have h' : ¬ x = y := fun z => h z.symm
      simp [h, h']
theorem cut2b (w : Wd) : cutV w.V (some 2) none = [.int w.p, .int w.o, .str w.a] := by
  unfold cutV
  rw [HT.sIx_none, show HT.sIx w.V.length 0 (some 2) = min 2 w.V.length from HT.sIx_nat w.V.length 0 2]
  rfl
theorem not_whole2b (w : Wd) : ¬ (HT.sIx w.V.length 0 (some 2) = 0 ∧ HT.sIx w.V.length w.V.length none = w.V.length) := by
  rw [show HT.sIx w.V.length 0 (some 2) = min 2 w.V.length from HT.sIx_nat w.V.length 0 2]
  intro h
  have h2 : (2 : Nat) = 0 := h.1
  exact absurd h2 (by decide)
def kPO (p o : Int) : List Key := [Sum.inl p, Sum.inl o]
theorem kPO_inj {a b c d : Int} : kPO a b = kPO c d ↔ a = c ∧ b = d := by
  unfold kPO
  constructor
  · intro h
    injection h with h1 h2
    injection h2 with h2 _
    exact ⟨Sum.inl.inj h1, Sum.inl.inj h2⟩
  · rintro ⟨rfl, rfl⟩
    rfl
/-- the dict of the answers -/
def AnsD (kvs : List (List Key × V)) (f : Int → Int → Option Str) : Prop := ∀ p o, valV kvs (kPO p o) = (f p o).map V.str
theorem range_take {i n : Nat} (h : i < n) : (List.range n).take (i + 1) = (List.range n).take i ++ [i] := by
  rw [List.take_add_one, List.getElem?_range h] <;> rfl
/-- words and a meeting as they are handed in -/
structure Asked (K : PySem.W.Frag) (H : Hp) (l : Addr) (ws : List Wd) (a : Addr) (m : Mt) (cm cc : Addr) : Prop where
  hw : WsAt K H l ws
  h80 : ws.length ≤ 80
  ok : ∀ x ∈ ws, x.ok
  al : Alike ws
  hm : MAt K H a m
  mok : m.ok
  tm : TabG H cm
  tc : TabG H cc
theorem Asked.k {cm cc : Addr} {K : PySem.W.Frag} {H H' : Hp} {l a : Addr} {ws : List Wd} {m : Mt} (k : Kx H H') (h : Asked K H l ws a m cm cc) : Asked K H' l ws a m cm cc :=
  ⟨h.hw.k k, h.h80, h.ok, h.al, h.hm.k k, h.mok, k.g _ h.tm, k.g _ h.tc⟩
end CH
end

section
set_option Elab.async false
set_option linter.all false
set_option maxRecDepth 100000
/-! fields: numbers, lists of numbers, lists of such lists -/
namespace CH
open PySem PySem.Spec PyProof.Rows L2
theorem ixn_at {n j : Nat} (hj : j < n) : ixN n (j : Int) = some j := by
  unfold ixN
  rw [if_pos (Int.natCast_nonneg j), if_pos (by omega), Int.toNat_natCast]
/-- an element of a field that is a list: a number, or a list of numbers -/
abbrev El := Sum Int (List Int)
def El.at_ (K : PySem.W.Frag) (H : Hp) (v : V) : El → Prop
  | .inl n => v = .int n
  | .inr r => ∃ t, v = .ref t ∧ SqL K H t (r.map V.int) ∧ r.length ≤ 1000
def El.new (H0 H : Hp) (v : V) : El → Prop
  | .inl n => v = .int n
  | .inr r => ∃ t, v = .ref t ∧ H t = some (.lst (r.map V.int)) ∧ H0 t = none ∧ r.length ≤ 1000
theorem El.at_k {K : PySem.W.Frag} {H H' : Hp} {v : V} {e : El} (k : Kx H H') (h : El.at_ K H v e) : El.at_ K H' v e := by
  cases e with
  | inl n => exact h
  | inr r =>
    obtain ⟨t, a, b, c⟩ := h
    exact ⟨t, a, k.l b, c⟩
/-- the new elements so far: none of them is told or rest, none twice -/
structure Cp (H0 H : Hp) (p q : Addr) (ns : List V) (es : List El) : Prop where
  pr : Paired (El.new H0 H) ns es
  d : ∀ t, V.ref t ∈ ns → t ≠ p ∧ t ≠ q
  n : ∀ (i j : Nat) (t : Addr), ns[i]? = some (V.ref t) → ns[j]? = some (V.ref t) → i = j
theorem Cp.nil {H0 H : Hp} {p q : Addr} : Cp H0 H p q [] [] := ⟨.nil, fun t h => absurd h (by simp), fun i j t h => by simp at h⟩
theorem Cp.mono {H0 H H' : Hp} {p q : Addr} {ns : List V} {es : List El} (h : Cp H0 H p q ns es) (k : ∀ t o, t ≠ p → t ≠ q → H t = some o → (∀ ps, o ≠ .tbl ps) → H' t = some o) : Cp H0 H' p q ns es := by
  refine ⟨?_, h.d, h.n⟩
  have go : ∀ {l : List V} {m : List El}, Paired (El.new H0 H) l m → (∀ t, V.ref t ∈ l → t ≠ p ∧ t ≠ q) → Paired (El.new H0 H') l m := by
    intro l m z
    induction z with
    | nil => intro _; exact .nil
    | @cons v e l m r t ih =>
      intro hd
      refine .cons ?_ (ih fun t ht => hd t (List.mem_cons_of_mem _ ht))
      cases e with
      | inl n => exact r
      | inr x =>
        obtain ⟨t, rfl, b, c, d⟩ := r
        obtain ⟨d1, d2⟩ := hd t List.mem_cons_self
        exact ⟨t, rfl, k t _ d1 d2 b (fun _ z => nomatch z), c, d⟩
  exact go h.pr h.d
theorem Cp.snoc {H0 H : Hp} {p q : Addr} {ns : List V} {es : List El} {v : V} {e : El} (h : Cp H0 H p q ns es) (hv : El.new H0 H v e) (hd : ∀ t, v = .ref t → t ≠ p ∧ t ≠ q ∧ V.ref t ∉ ns) : Cp H0 H p q (ns ++ [v]) (es ++ [e]) := by
  refine ⟨paired_snoc h.pr hv, fun t ht => ?_, fun i j t hi hj => ?_⟩
  · rcases List.mem_append.mp ht with z | z
    · exact h.d t z
    · have e := List.mem_singleton.mp z
      exact ⟨(hd t e.symm).1, (hd t e.symm).2.1⟩
  · have lt : ∀ i, (ns ++ [v])[i]? = some (V.ref t) → (i < ns.length ∧ ns[i]? = some (V.ref t)) ∨ (i = ns.length ∧ v = .ref t) := fun i hi => by
      by_cases z : i < ns.length
      · rw [List.getElem?_append_left z] at hi
        exact .inl ⟨z, hi⟩
      · rw [List.getElem?_append_right (Nat.le_of_not_lt z)] at hi
        have : i - ns.length = 0 := by
          cases e : i - ns.length with
          | zero => rfl
          | succ m => rw [e] at hi; simp at hi
        rw [this] at hi
        exact .inr ⟨by omega, by simpa using hi⟩
    rcases lt i hi with ⟨a, b⟩ | ⟨a, b⟩ <;> rcases lt j hj with ⟨c, d⟩ | ⟨c, d⟩
    · exact h.n i j t b d
    · exact absurd (List.mem_of_getElem? b) (hd t d).2.2
    · exact absurd (List.mem_of_getElem? d) (hd t b).2.2
    · rw [a, c]
/-- a field's list, new: of numbers -/
theorem new_ints {H0 H : Hp} : ∀ {vs : List V} {ns : List Int}, Paired (El.new H0 H) vs (ns.map Sum.inl) → vs = ns.map V.int
  | [], [], _ => rfl
  | [], _ :: _, h => nomatch h
  | _ :: _, [], h => nomatch h
  | v :: vs, n :: ns, .cons a t => by
    rw [List.map_cons, new_ints t, show v = .int n from a]
theorem at_ints {K : PySem.W.Frag} {H : Hp} : ∀ (ns : List Int), Paired (El.at_ K H) (ns.map V.int) (ns.map Sum.inl)
  | [] => .nil
  | n :: ns => .cons rfl (at_ints ns)
/-- .. of lists of numbers -/
def RowsAt (H : Hp) (ts : List Addr) (rs : List (List Int)) : Prop := Paired (fun t (r : List Int) => H t = some (.lst (r.map V.int)) ∧ r.length ≤ 1000) ts rs
def RowsIn (K : PySem.W.Frag) (H : Hp) (ts : List Addr) (rs : List (List Int)) : Prop := Paired (fun t (r : List Int) => SqL K H t (r.map V.int) ∧ r.length ≤ 1000) ts rs
theorem RowsAt.in_ {K : PySem.W.Frag} {H : Hp} {ts : List Addr} {rs : List (List Int)} (h : RowsAt H ts rs) : RowsIn K H ts rs := by
  induction h with
  | nil => exact .nil
  | cons r t ih => exact .cons ⟨sq_of r.1, r.2⟩ ih
theorem RowsAt.k {H H' : Hp} {ts : List Addr} {rs : List (List Int)} (k : Kx H H') (h : RowsAt H ts rs) : RowsAt H' ts rs := by
  induction h with
  | nil => exact .nil
  | cons r t ih => exact .cons ⟨k.lst r.1, r.2⟩ ih
theorem RowsAt.up {H : Hp} {p : Addr} {o : HO} {ts : List Addr} {rs : List (List Int)} (h : RowsAt H ts rs) (n : ∀ t ∈ ts, t ≠ p) : RowsAt (upd H p o) ts rs := by
  induction h with
  | nil => exact .nil
  | @cons t r ts rs a b ih =>
    refine .cons ⟨?_, a.2⟩ (ih fun t ht => n t (List.mem_cons_of_mem _ ht))
    rw [upd_ne (n t List.mem_cons_self)]
    exact a.1
theorem RowsIn.k {K : PySem.W.Frag} {H H' : Hp} {ts : List Addr} {rs : List (List Int)} (k : Kx H H') (h : RowsIn K H ts rs) : RowsIn K H' ts rs := by
  induction h with
  | nil => exact .nil
  | cons r t ih => exact .cons ⟨k.l r.1, r.2⟩ ih
theorem at_rows {K : PySem.W.Frag} {H : Hp} {ts : List Addr} {rs : List (List Int)} (h : RowsIn K H ts rs) : Paired (El.at_ K H) (ts.map V.ref) (rs.map Sum.inr) := by
  induction h with
  | nil => exact .nil
  | cons r t ih => exact .cons ⟨_, rfl, r.1, r.2⟩ ih
theorem RowsAt.set_ {H : Hp} : ∀ {ts : List Addr} {rs : List (List Int)} {i : Nat} {t : Addr} {ns : List Int}, RowsAt H ts rs → ts.Nodup → ts[i]? = some t → ns.length ≤ 1000 → RowsAt (upd H t (.lst (ns.map V.int))) ts (rs.set i ns)
  | _, _, _, _, _, .nil, _, hi, _ => by simp at hi
  | t0 :: ts, r0 :: rs, 0, t, ns, .cons a b, nd, hi, hn => by
    have e : t0 = t := by simpa using hi
    subst e
    obtain ⟨n1, n2⟩ := List.nodup_cons.mp nd
    exact .cons ⟨upd_same, hn⟩ (RowsAt.up b fun y hy z => n1 (z ▸ hy))
  | t0 :: ts, r0 :: rs, i + 1, t, ns, .cons a b, nd, hi, hn => by
    obtain ⟨n1, n2⟩ := List.nodup_cons.mp nd
    have hi' : ts[i]? = some t := by simpa using hi
    have ne : t0 ≠ t := fun z => n1 (z ▸ List.mem_of_getElem? hi')
    exact .cons ⟨by rw [upd_ne ne]; exact a.1, a.2⟩ (RowsAt.set_ b n2 hi' hn)
/-- the rows of an answer: new, none twice, none is the list -/
structure RowsNew (H0 H : Hp) (l : Addr) (ts : List Addr) (rs : List (List Int)) : Prop where
  at_ : RowsAt H ts rs
  new : ∀ t ∈ ts, H0 t = none
  ne : ∀ t ∈ ts, t ≠ l
  nd : ts.Nodup
theorem new_rows {H0 H : Hp} {p q : Addr} : ∀ {vs : List V} {rs : List (List Int)}, Paired (El.new H0 H) vs (rs.map Sum.inr) → ∃ ts : List Addr, vs = ts.map V.ref ∧ RowsAt H ts rs ∧ ∀ t ∈ ts, H0 t = none
  | [], [], _ => ⟨[], rfl, .nil, fun t h => absurd h (by simp)⟩
  | [], _ :: _, h => nomatch h
  | _ :: _, [], h => nomatch h
  | v :: vs, r :: rs, .cons a t => by
    obtain ⟨ts, e, b, c⟩ := new_rows (p := p) (q := q) t
    obtain ⟨x, rfl, h1, h2, h3⟩ := a
    refine ⟨x :: ts, by rw [e]; rfl, .cons ⟨h1, h3⟩ b, fun y hy => ?_⟩
    rcases List.mem_cons.mp hy with rfl | hy
    · exact h2
    · exact c y hy
theorem Cp.rows {H0 H : Hp} {p q : Addr} {vs : List V} {rs : List (List Int)} (h : Cp H0 H p q vs (rs.map Sum.inr)) : ∃ ts : List Addr, vs = ts.map V.ref ∧ RowsNew H0 H p ts rs := by
  obtain ⟨ts, rfl, b, c⟩ := new_rows (p := p) (q := q) h.pr
  refine ⟨ts, rfl, b, c, fun t ht => (h.d t (List.mem_map.mpr ⟨t, ht, rfl⟩)).1, ?_⟩
  refine List.pairwise_iff_getElem.mpr fun i j hi hj hij e => ?_
  have z : ts[j]? = some ts[j] := List.getElem?_eq_getElem hj
  have z0 : ts[i]? = some ts[j] := by rw [List.getElem?_eq_getElem hi, e]
  have a1 : (ts.map V.ref)[i]? = some (V.ref ts[j]) := by rw [List.getElem?_map, z0] <;> rfl
  have a2 : (ts.map V.ref)[j]? = some (V.ref ts[j]) := by rw [List.getElem?_map, z] <;> rfl
  exact absurd (h.n i j _ a1 a2) (by omega)
end CH
end

section
set_option Elab.async false
set_option linter.all false
set_option maxRecDepth 100000
namespace CH
open PySem PySem.Spec PyProof.Rows L2
/-- people bar a meeting at an hour -/
def barsB (m : Mt) (f : Int → Option Str) (ns : List Int) : Bool :=
  decide ns.Nodup && (ns.all fun x => decide (x ∈ m.ps)) && (ns.all fun x => !decide ((f x).getD "no" = "yes")) && (decide ((m.ps.length : Int) - m.e < (ns.length : Int)) || ns.any fun x => decide (x ∈ m.nds))
theorem cutV_take {xs : List V} {n : Nat} : cutV xs none (some (n : Int)) = xs.take n := by
  unfold cutV
  rw [HT.sIx_none, show HT.sIx xs.length xs.length (some (n : Int)) = min n xs.length from HT.sIx_nat _ _ n]
  rw [List.drop_zero, Nat.sub_zero]
  by_cases h : n ≤ xs.length
  · rw [Nat.min_eq_left h]
  · rw [Nat.min_eq_right (by omega), List.take_length, List.take_of_length_le (by omega)]
theorem cutV_drop {xs : List V} {n : Nat} : cutV xs (some (n : Int)) none = xs.drop n := by
  unfold cutV
  rw [HT.sIx_none, show HT.sIx xs.length 0 (some (n : Int)) = min n xs.length from HT.sIx_nat _ _ n]
  by_cases h : n ≤ xs.length
  · rw [Nat.min_eq_left h]
    exact List.take_of_length_le (by rw [List.length_drop]; exact Nat.le_refl _)
  · rw [Nat.min_eq_right (by omega), List.drop_length, List.take_nil, List.drop_eq_nil_of_le (by omega)]
theorem hoursL_mem {m : Mt} {cs : List Str} {F : Int → Int → Str} {h : Int} (z : h ∈ hoursL m cs F) : 0 ≤ h ∧ h ≤ 11 := by
  unfold hoursL at z
  obtain ⟨o, ho, rfl⟩ := List.mem_map.mp z
  have := List.mem_range.mp (List.mem_filter.mp ho).1
  show (0 : Int) ≤ (o : Int) ∧ (o : Int) ≤ 11
  omega
/-- what At tells -/
def atB (m : Mt) (ws : List Wd) (h : Int) : Bool := decide ((hoursL m ["yes"] (ansF ws)).take 1 = [h])
/-- what Barred tells -/
def barredB (m : Mt) (ws : List Wd) (rs : List (List Int)) : Bool := decide (rs.length = 12) && (List.range rs.length).all fun i => barsB m (fun x => ansW ws x (i : Nat)) (rs.getD i [])
/-- words as shows takes them -/
structure Words (K : PySem.W.Frag) (H : Hp) (l : Addr) (ws : List Wd) : Prop where
  ex : ∃ ts : List Addr, SqL K H l (ts.map V.ref) ∧ TAt H ts ws
  h80 : ws.length ≤ 80
  ok : ∀ x ∈ ws, x.ok
  al : Alike ws
theorem Words.k {K : PySem.W.Frag} {H H' : Hp} {l : Addr} {ws : List Wd} (k : Kx H H') (h : Words K H l ws) : Words K H' l ws := by
  obtain ⟨⟨ts, a, b⟩, c, d, e⟩ := h
  exact ⟨⟨ts, k.l a, b.k k⟩, c, d, e⟩
theorem Words.at_ {K : PySem.W.Frag} {H : Hp} {l : Addr} {ws : List Wd} (h : Words K H l ws) : WsAt K H l ws := by
  obtain ⟨⟨ts, a, b⟩, c, d, e⟩ := h
  exact ⟨ts, a, b.w⟩
def notYes (m : Mt) (f : Int → Option Str) : List Int := m.ps.filter fun x => !decide ((f x).getD "no" = "yes")
theorem rise_gt : ∀ {ns : List Int} {b : Int}, Rise b ns → ∀ x ∈ ns, b < x
  | [], _, _, x, h => absurd h (by simp)
  | y :: ys, b, r, x, h => by
    obtain ⟨r1, r2, r3⟩ := r
    rcases List.mem_cons.mp h with rfl | h
    · omega
    · have := rise_gt r3 x h
      omega
theorem rise_nodup : ∀ {ns : List Int} {b : Int}, Rise b ns → ns.Nodup
  | [], _, _ => List.nodup_nil
  | y :: ys, b, r => by
    obtain ⟨r1, r2, r3⟩ := r
    refine List.nodup_cons.mpr ⟨fun h => ?_, rise_nodup r3⟩
    have := rise_gt r3 y h
    omega
theorem notYes_split (m : Mt) (f : Int → Option Str) : (comeL m.ps ["yes"] fun x => (f x).getD "no").length + (notYes m f).length = m.ps.length := by
  unfold comeL notYes
  generalize m.ps = ps
  induction ps with
  | nil => rfl
  | cons x xs ih =>
    have hm : ((f x).getD "no" ∈ [("yes" : Str)]) ↔ (f x).getD "no" = "yes" := List.mem_singleton
    by_cases h : (f x).getD "no" = "yes"
    · rw [List.filter_cons_of_pos (p := fun x => decide ((fun x => (f x).getD "no") x ∈ [("yes" : Str)])) (decide_eq_true (hm.mpr h)), List.filter_cons_of_neg (p := fun x => !decide ((f x).getD "no" = "yes")) (by rw [decide_eq_true h]; decide), List.length_cons, List.length_cons]
      omega
    · rw [List.filter_cons_of_neg (p := fun x => decide ((fun x => (f x).getD "no") x ∈ [("yes" : Str)])) (by rw [decide_eq_false (fun z => h (hm.mp z))]; decide), List.filter_cons_of_pos (p := fun x => !decide ((f x).getD "no" = "yes")) (by rw [decide_eq_false h]; rfl), List.length_cons, List.length_cons]
      omega
theorem bars_all {m : Mt} {f : Int → Option Str} (mok : m.ok) (h : (canB m ["yes"] fun x => (f x).getD "no") = false) : barsB m f (notYes m f) = true := by
  have hs := notYes_split m f
  unfold barsB
  have h1 : (notYes m f).Nodup := List.Nodup.sublist (List.filter_sublist) (rise_nodup mok.p)
  have h2 : ((notYes m f).all fun x => decide (x ∈ m.ps)) = true := List.all_eq_true.mpr fun x hx => decide_eq_true (List.mem_filter.mp hx).1
  have h3 : ((notYes m f).all fun x => !decide ((f x).getD "no" = "yes")) = true := List.all_eq_true.mpr fun x hx => (List.mem_filter.mp hx).2
  rw [decide_eq_true h1, h2, h3, Bool.true_and, Bool.true_and, Bool.true_and]
  unfold canB at h
  rw [Bool.and_eq_false_iff] at h
  rw [Bool.or_eq_true]
  rcases h with h | h
  · left
    have := of_decide_eq_false h
    exact decide_eq_true (by omega)
  · right
    obtain ⟨x, hx, hn⟩ := List.all_eq_false.mp h
    have hp := mok.sub x hx
    have hn' : ¬ x ∈ comeL m.ps ["yes"] fun x => (f x).getD "no" := by simpa using hn
    refine List.any_eq_true.mpr ⟨x, List.mem_filter.mpr ⟨hp, ?_⟩, decide_eq_true hx⟩
    by_cases z : (f x).getD "no" = "yes"
    · exact absurd (List.mem_filter.mpr ⟨hp, decide_eq_true (by show (f x).getD "no" ∈ [("yes" : Str)]; rw [z]; exact List.mem_cons_self)⟩) hn'
    · rw [decide_eq_false z] <;> rfl
theorem bars_nil {m : Mt} {f : Int → Option Str} (mok : m.ok) : barsB m f [] = false := by
  unfold barsB
  have := mok.e2
  rw [show decide ((m.ps.length : Int) - m.e < (([] : List Int).length : Int)) = false from decide_eq_false (by show ¬ (m.ps.length : Int) - m.e < 0; omega)]
  simp
/-- the rows that are told -/
def toldRows (m : Mt) (ws : List Wd) : List (List Int) := (List.range 12).map fun o => notYes m fun x => ansW ws x (o : Nat)
theorem toldRows_at {m : Mt} {ws : List Wd} {i : Nat} (h : i < 12) : (toldRows m ws).getD i [] = notYes m fun x => ansW ws x (i : Nat) := by
  unfold toldRows
  rw [List.getD_eq_getElem?_getD, List.getElem?_map, List.getElem?_range h] <;> rfl
theorem hoursL_nil {m : Mt} {ws : List Wd} (h : hoursL m ["yes"] (ansF ws) = []) {i : Nat} (hi : i < 12) : (canB m ["yes"] fun x => (ansW ws x (i : Nat)).getD "no") = false := by
  refine Bool.eq_false_iff.mpr fun z => ?_
  have : Int.ofNat i ∈ hoursL m ["yes"] (ansF ws) := List.mem_map.mpr ⟨i, List.mem_filter.mpr ⟨List.mem_range.mpr hi, z⟩, rfl⟩
  rw [h] at this
  exact absurd this (by simp)
theorem told_barred {m : Mt} {ws : List Wd} (mok : m.ok) (h : hoursL m ["yes"] (ansF ws) = []) : barredB m ws (toldRows m ws) = true := by
  have l : (toldRows m ws).length = 12 := by unfold toldRows; rw [List.length_map, List.length_range]
  unfold barredB
  rw [l, decide_eq_true rfl, Bool.true_and, List.all_eq_true]
  intro i hi
  have hi := List.mem_range.mp hi
  rw [toldRows_at hi]
  exact bars_all mok (hoursL_nil h hi)
theorem told_at {m : Mt} {ws : List Wd} {h : Int} {hs : List Int} (e : hoursL m ["yes"] (ansF ws) = h :: hs) : atB m ws h = true := by
  unfold atB
  rw [e]
  exact decide_eq_true rfl
/-- one row emptied -/
theorem barred_empty {m : Mt} {ws : List Wd} {rs : List (List Int)} (mok : m.ok) (i : Nat) (h : i < rs.length) (e : rs.getD i [] = []) : barredB m ws rs = false := by
  unfold barredB
  rw [Bool.and_eq_false_iff]
  right
  refine List.all_eq_false.mpr ⟨i, List.mem_range.mpr h, ?_⟩
  rw [e, bars_nil mok]
  decide
theorem barred_long {m : Mt} {ws : List Wd} {rs : List (List Int)} (h : rs.length ≠ 12) : barredB m ws rs = false := by
  unfold barredB
  rw [decide_eq_false h]
  rfl
/-- truths as data -/
def bsD (bs : List Bool) : PyData := .list (bs.map PyData.bool)
theorem bool_eqv (a b : Bool) : PyData.eqv (.bool a) (.bool b) = decide (a = b) := by cases a <;> cases b <;> rfl
theorem bsD_eqv (xs ys : List Bool) : PyData.eqv (bsD xs) (bsD ys) = decide (xs = ys) := eqvAll_map bool_eqv xs ys
theorem bls_dp {K : PySem.W.Frag} {H : Hp} : ∀ bs : List Bool, DpAll K H (bs.map V.bl) (bs.map PyData.bool)
  | [] => .nil
  | b :: bs => .cons (.bl b) (bls_dp bs)
theorem bsD_dp {K : PySem.W.Frag} {H : Hp} {l : Addr} {bs : List Bool} (h : SqL K H l (bs.map V.bl)) : Dp K H (.ref l) (bsD bs) := .lst h (bls_dp bs)
theorem bls_lay : ∀ bs : List Bool, PyData.canLayAll0 (bs.map PyData.bool) = true
  | [] => rfl
  | b :: bs => by simp only [List.map_cons, PyData.canLayAll0, PyData.canLay0, bls_lay bs, Bool.and_self]
theorem bls_depth : ∀ bs : List Bool, PyData.depthAll (bs.map PyData.bool) = 0
  | [] => rfl
  | b :: bs => by
    simp only [List.map_cons, PyData.depthAll, PyData.depth, bls_depth bs]
    rfl
theorem bsD_sh (bs : List Bool) : SeqAt.shaped (bsD bs) = true := by
  unfold SeqAt.shaped bsD
  simp only [PyData.canLay0, bls_lay, PyData.depth, bls_depth]
  rfl
theorem words_of {K : PySem.W.Frag} {H : Hp} {p : Addr} {ts : List Addr} {ws us : List Wd} (hp : H p = some (.lst (ts.map V.ref))) (ht : TAt H ts us) (h80 : ws.length ≤ 80) (ok : ∀ x ∈ ws, x.ok) (al : Alike ws) (l : us.length ≤ ws.length) (m : ∀ x ∈ us, x ∈ ws) : Words K H p us :=
  ⟨⟨ts, sq_of hp, ht⟩, by omega, fun x hx => ok x (m x hx), alike_sub al m⟩
/-- lists of lists of numbers as data -/
def rsD (rs : List (List Int)) : PyData := .list (rs.map isD)
theorem rsD_eqv (xs ys : List (List Int)) : PyData.eqv (rsD xs) (rsD ys) = decide (xs = ys) := eqvAll_map isD_eqv xs ys
theorem rsD_dp {K : PySem.W.Frag} {H : Hp} {l : Addr} {ts : List Addr} {rs : List (List Int)} (h : SqL K H l (ts.map V.ref)) (hr : RowsIn K H ts rs) : Dp K H (.ref l) (rsD rs) := by
  refine .lst h ?_
  clear h
  induction hr with
  | nil => exact .nil
  | cons r t ih => exact .cons (isD_dp r.1) ih
theorem rsD_sh (rs : List (List Int)) : SeqAt.shaped (rsD rs) = true := by
  have lay : ∀ l : List (List Int), PyData.canLayAll0 (l.map isD) = true := by
    intro l
    induction l with
    | nil => rfl
    | cons x l ih =>
      have e : (isD x).canLay0 = true := by
        unfold isD
        simp only [PyData.canLay0, ints_lay]
      simp only [List.map_cons, PyData.canLayAll0, e, ih, Bool.and_self]
  have dep : ∀ l : List (List Int), PyData.depthAll (l.map isD) ≤ 1 := by
    intro l
    induction l with
    | nil => simp [PyData.depthAll]
    | cons x l ih =>
      have e : (isD x).depth ≤ 1 := by
        unfold isD
        simp only [PyData.depth, ints_depth]
        decide
      simp only [List.map_cons, PyData.depthAll]
      omega
  unfold SeqAt.shaped rsD
  have e1 : (PyData.list (rs.map isD)).canLay0 = true := by
    simp only [PyData.canLay0]
    exact lay rs
  have e2 : (PyData.list (rs.map isD)).depth ≤ 64 := by
    simp only [PyData.depth]
    have := dep rs
    omega
  rw [e1, decide_eq_true e2]
  rfl
/-- a list of rows, few and short -/
def RsOk (K : PySem.W.Frag) (H : Hp) (q : Addr) : Prop := ∃ (ts : List Addr) (rs : List (List Int)), SqL K H q (ts.map V.ref) ∧ RowsIn K H ts rs ∧ rs.length ≤ 100 ∧ ∀ x ∈ rs, x.length ≤ 900
theorem RsOk.k {K : PySem.W.Frag} {H H' : Hp} {q : Addr} (k : Kx H H') (h : RsOk K H q) : RsOk K H' q := by
  obtain ⟨ts, rs, a, b, c, d⟩ := h
  exact ⟨ts, rs, k.l a, b.k k, c, d⟩
theorem RowsIn.take {K : PySem.W.Frag} {H : Hp} : ∀ {ts : List Addr} {rs : List (List Int)} (n : Nat), RowsIn K H ts rs → RowsIn K H (ts.take n) (rs.take n)
  | _, _, 0, _ => by rw [List.take_zero, List.take_zero]; exact .nil
  | _, _, _ + 1, .nil => .nil
  | _, _, n + 1, .cons a p => .cons a (RowsIn.take n p)
theorem RowsIn.drop {K : PySem.W.Frag} {H : Hp} : ∀ {ts : List Addr} {rs : List (List Int)} (n : Nat), RowsIn K H ts rs → RowsIn K H (ts.drop n) (rs.drop n)
  | _, _, 0, h => h
  | _, _, _ + 1, .nil => .nil
  | _, _, n + 1, .cons _ p => RowsIn.drop n p
theorem RowsIn.app {K : PySem.W.Frag} {H : Hp} {ts us : List Addr} {rs ss : List (List Int)} (h : RowsIn K H ts rs) (g : RowsIn K H us ss) : RowsIn K H (ts ++ us) (rs ++ ss) := by
  induction h with
  | nil => exact g
  | cons a t ih => exact .cons a ih
theorem RowsIn.rev {K : PySem.W.Frag} {H : Hp} {ts : List Addr} {rs : List (List Int)} (h : RowsIn K H ts rs) : RowsIn K H ts.reverse rs.reverse := by
  induction h with
  | nil => exact .nil
  | cons a t ih =>
    rw [List.reverse_cons, List.reverse_cons]
    exact ih.app (.cons a .nil)
theorem RowsIn.rep {K : PySem.W.Frag} {H : Hp} {t : Addr} {r : List Int} (h : SqL K H t (r.map V.int)) (l : r.length ≤ 1000) : ∀ n : Nat, RowsIn K H (List.replicate n t) (List.replicate n r)
  | 0 => .nil
  | n + 1 => .cons ⟨h, l⟩ (RowsIn.rep h l n)
end CH
end

section
set_option Elab.async false
set_option linter.all false
set_option maxRecDepth 100000
set_option maxHeartbeats 4000000
/-! written data, laid in one step -/
namespace CH
open PySem PySem.Spec PyProof.Rows L2
/-- data as a program writes them -/
inductive Lt where
  | int (i : Int)
  | str (x : Str)
  | bl (b : Bool)
  | non
  | tup (l : List Lt)
  | lst (l : List Lt)
mutual
/-- such data stand at a value, all new or not -/
def Lt.at_ (H : Hp) : Lt → V → Prop
  | .int i, v => v = .int i
  | .str x, v => v = .str x
  | .bl b, v => v = .bl b
  | .non, v => v = .non
  | .tup l, v => ∃ a vs, v = .ref a ∧ H a = some (.tup vs) ∧ Lt.ats H l vs
  | .lst l, v => ∃ a vs, v = .ref a ∧ H a = some (.lst vs) ∧ Lt.ats H l vs
def Lt.ats (H : Hp) : List Lt → List V → Prop
  | [], vs => vs = []
  | d :: ds, vs => ∃ v ws, vs = v :: ws ∧ Lt.at_ H d v ∧ Lt.ats H ds ws
end
mutual
theorem Lt.at_k {H H' : Hp} (k : Kx H H') : ∀ (d : Lt) (v : V), Lt.at_ H d v → Lt.at_ H' d v
  | .int _, _, h => h
  | .str _, _, h => h
  | .bl _, _, h => h
  | .non, _, h => h
  | .tup l, v, h => by
    obtain ⟨a, vs, e, b, c⟩ := h
    exact ⟨a, vs, e, k.tup b, Lt.ats_k k l vs c⟩
  | .lst l, v, h => by
    obtain ⟨a, vs, e, b, c⟩ := h
    exact ⟨a, vs, e, k.lst b, Lt.ats_k k l vs c⟩
theorem Lt.ats_k {H H' : Hp} (k : Kx H H') : ∀ (ds : List Lt) (vs : List V), Lt.ats H ds vs → Lt.ats H' ds vs
  | [], _, h => h
  | d :: ds, vs, h => by
    obtain ⟨v, ws, e, a, b⟩ := h
    exact ⟨v, ws, e, Lt.at_k k d v a, Lt.ats_k k ds ws b⟩
end
theorem Lt.ats_len {H : Hp} : ∀ {ds : List Lt} {vs : List V}, Lt.ats H ds vs → vs.length = ds.length
  | [], _, h => by rw [show _ = [] from h] <;> rfl
  | d :: ds, vs, h => by
    obtain ⟨v, ws, rfl, a, b⟩ := h
    rw [List.length_cons, List.length_cons, Lt.ats_len b]
theorem Lt.ats_app {H : Hp} : ∀ {ds es : List Lt} {vs ws : List V}, Lt.ats H ds vs → Lt.ats H es ws → Lt.ats H (ds ++ es) (vs ++ ws)
  | [], _, _, _, h, g => by
    rw [show _ = [] from h]
    exact g
  | d :: ds, es, vs, ws, h, g => by
    obtain ⟨v, us, rfl, a, b⟩ := h
    exact ⟨v, us ++ ws, rfl, a, Lt.ats_app b g⟩
def tLit (d : Lt) : TE := fun _ H Q => ∀ (v : V) (H' : Hp), Kx H H' → Lt.at_ H' d v → Q v H'
def tLits (ds : List Lt) : TA := fun _ H Q => ∀ (vs : List V) (H' : Hp), Kx H H' → Lt.ats H' ds vs → Q vs H'
section
variable {X : Cx} {e : Expr} {es : List Expr} {t t' : TE} {ta ta' : TA} {pos : Pos}
theorem PE.weak (h : PE X e t) (k : ∀ σ H Q, t' σ H Q → t σ H Q) : PE X e t' := ⟨fun pins s σ H Q I q => h.run pins s σ H Q I (k σ H Q q)⟩
theorem PA.weak (h : PA X es ta) (k : ∀ σ H Q, ta' σ H Q → ta σ H Q) : PA X es ta' := ⟨fun pos pins s σ H Q I q => h.run pos pins s σ H Q I (k σ H Q q)⟩
theorem pl_int {i j} : PE X (.Constant (.int i) j pos) (tLit (.int i)) := PE.weak pe_int fun _ H Q q => q _ H (Kx.refl H) rfl
theorem pl_str {x j} : PE X (.Constant (.str x) j pos) (tLit (.str x)) := PE.weak pe_str fun _ H Q q => q _ H (Kx.refl H) rfl
theorem pl_bl {b j} : PE X (.Constant (.bool b) j pos) (tLit (.bl b)) := PE.weak pe_bl fun _ H Q q => q _ H (Kx.refl H) rfl
theorem pl_non {j} : PE X (.Constant .none j pos) (tLit .non) := PE.weak pe_non fun _ H Q q => q _ H (Kx.refl H) rfl
theorem pl_neg {i : Int} (h : PE X e (tLit (.int i))) : PE X (.UnaryOp .USub e pos) (tLit (.int (-i))) := PE.weak (pe_un un_neg h) fun _ H Q q v H' k a => ⟨i, a, q _ H' k rfl⟩
theorem pls_nil : PA X [] (tLits []) := PA.weak pa_nil fun _ H Q q => q _ H (Kx.refl H) rfl
theorem pls_cons {d : Lt} {ds : List Lt} (he : PE X e (tLit d)) (h : PA X es (tLits ds)) (hs : starEach (e :: es) X.env = (false, eval e X.env) :: starEach es X.env := by rfl) : PA X (e :: es) (tLits (d :: ds)) :=
  PA.weak (pa_cons he h hs) fun _ H Q q v H1 k1 a vs H2 k2 b => q _ H2 (k1.trans k2) ⟨v, vs, rfl, Lt.at_k k2 d v a, b⟩
theorem pl_tup {ds : List Lt} {x1} (h : PA X es (tLits ds)) (n : ds.length ≤ 1000 := by decide) : PE X (.Tuple es x1 pos) (tLit (.tup ds)) :=
  PE.weak (pe_tup h) fun _ H Q q vs H1 k1 b => ⟨by rw [Lt.ats_len b]; exact small80 (by omega), fun p np => q _ _ (k1.trans (Kx.new np)) ⟨p, vs, rfl, upd_same, Lt.ats_k (Kx.new np) ds vs b⟩⟩
theorem pl_lst {ds : List Lt} (h : PA X es (tLits ds)) (n : ds.length ≤ 1000 := by decide) : PE X (.List es pos) (tLit (.lst ds)) :=
  PE.weak (pe_lst h) fun _ H Q q vs H1 k1 b => ⟨by rw [Lt.ats_len b]; exact small80 (by omega), fun p np => q _ _ (k1.trans (Kx.new np)) ⟨p, vs, rfl, upd_same, Lt.ats_k (Kx.new np) ds vs b⟩⟩
end
/-! what they are -/
def Wd.lt (w : Wd) : Lt := .tup [.int w.c, .int w.h, .int w.p, .int w.o, .str w.a]
def wordsLt (ws : List Wd) : Lt := .lst (ws.map Wd.lt)
def isLt (ns : List Int) : List Lt := ns.map Lt.int
def Mt.lt (m : Mt) : Lt := .tup [.tup (isLt m.ps), .int m.e, .tup (isLt m.nds)]
theorem ints_at {H : Hp} : ∀ {ns : List Int} {vs : List V}, Lt.ats H (isLt ns) vs → vs = ns.map V.int
  | [], _, h => h
  | n :: ns, vs, h => by
    obtain ⟨v, ws, rfl, a, b⟩ := h
    rw [show v = .int n from a, ints_at b] <;> rfl
theorem intsL {H : Hp} {ns : List Int} {v : V} (h : Lt.at_ H (.lst (isLt ns)) v) : ∃ a, v = .ref a ∧ H a = some (.lst (ns.map V.int)) := by
  obtain ⟨a, vs, e, b, c⟩ := h
  rw [ints_at c] at b
  exact ⟨a, e, b⟩
theorem intsT {H : Hp} {ns : List Int} {v : V} (h : Lt.at_ H (.tup (isLt ns)) v) : ∃ a, v = .ref a ∧ H a = some (.tup (ns.map V.int)) := by
  obtain ⟨a, vs, e, b, c⟩ := h
  rw [ints_at c] at b
  exact ⟨a, e, b⟩
theorem wd_at {H : Hp} {w : Wd} {v : V} (h : Lt.at_ H w.lt v) : ∃ a, v = .ref a ∧ H a = some (.tup w.V) := by
  obtain ⟨a, vs, e, b, v1, w1, rfl, e1, v2, w2, rfl, e2, v3, w3, rfl, e3, v4, w4, rfl, e4, v5, w5, rfl, e5, e6⟩ := h
  rw [show v1 = .int w.c from e1, show v2 = .int w.h from e2, show v3 = .int w.p from e3, show v4 = .int w.o from e4, show v5 = .str w.a from e5, show w5 = [] from e6] at b
  exact ⟨a, e, b⟩
theorem wds_at {H : Hp} : ∀ {ws : List Wd} {vs : List V}, Lt.ats H (ws.map Wd.lt) vs → ∃ ts : List Addr, vs = ts.map V.ref ∧ TAt H ts ws
  | [], _, h => ⟨[], h, .nil⟩
  | w :: ws, vs, h => by
    obtain ⟨v, us, rfl, a, b⟩ := h
    obtain ⟨t, rfl, ht⟩ := wd_at a
    obtain ⟨ts, rfl, hts⟩ := wds_at b
    exact ⟨t :: ts, rfl, .cons ht hts⟩
theorem words_lt {H : Hp} {ws : List Wd} {v : V} (h : Lt.at_ H (wordsLt ws) v) : ∃ (l : Addr) (ts : List Addr), v = .ref l ∧ H l = some (.lst (ts.map V.ref)) ∧ TAt H ts ws := by
  obtain ⟨a, vs, e, b, c⟩ := h
  obtain ⟨ts, rfl, ht⟩ := wds_at c
  exact ⟨a, ts, e, b, ht⟩
theorem mt_at {K : PySem.W.Frag} {H : Hp} {m : Mt} {v : V} (h : Lt.at_ H m.lt v) : ∃ a, v = .ref a ∧ MAt K H a m := by
  obtain ⟨a, vs, e, b, v1, w1, rfl, e1, v2, w2, rfl, e2, v3, w3, rfl, e3, e6⟩ := h
  obtain ⟨p, rfl, hp⟩ := intsT e1
  obtain ⟨n, rfl, hn⟩ := intsT e3
  rw [show v2 = .int m.e from e2, show w3 = [] from e6] at b
  exact ⟨a, e, p, n, st_of b, st_of hp, st_of hn⟩
end CH
end

section
set_option Elab.async false
set_option linter.all false
set_option maxRecDepth 100000
set_option maxHeartbeats 4000000
namespace CH
open PySem PySem.Spec PyProof.Rows L2
/-- [list(x) for x in xs], xs lists of numbers: new ones -/
theorem lc_copies {K K1 : PySem.W.Frag} {a : Addr} {ts : List Addr} {rs : List (List Int)} {i : Nat} {vs : List Nat} {σ : L2.St} {H0 : Hp} {D : Addr} {Qd : Hp → Prop} (eK : K1 = K) (hl : SqL K H0 a (ts.map V.ref)) (hrs : RowsIn K H0 ts rs) (nD : H0 D = none) (h4 : rs.length ≤ 4000)
    (hw : ∀ x, wipe ((wipe σ vs).set i (some x)) vs = wipe σ vs) (hg : ∀ x : V, ((wipe σ vs).set i (some x))[i]? = some (some x))
    (hd : ∀ (H3 : Hp) (us : List Addr), Kx H0 H3 → H3 D = some (.lst (us.map V.ref)) → RowsAt H3 us rs → us.Nodup → (∀ u ∈ us, H0 u = none ∧ u ≠ D) → Qd H3) :
    ∃ W : Nat → Nat → Hp → Prop, (∃ m, W 0 m (upd H0 D (.lst []))) ∧ ∀ i1 m H, W i1 m H →
      ((Itl K a).stop i1 H ∧ Qd H) ∨ ((Itl K a).go i1 H ∧ ∃ Nx : Hp → Prop, (∀ H', Nx H' → ∃ m', m' < m ∧ W (i1 + 1) m' H') ∧ ∀ x H', (Itl K a).yld i1 H x H' → gName i x (wipe σ vs) H' fun σ2 H2 => wipe σ2 vs = wipe σ vs ∧ tYes σ2 H2 fun b H3 =>
        if b = true then tCB (rListOf K1) (tCons (tVar i) tNil) σ2 H3 fun y H4 => ∃ acc, H4 D = some (.lst acc) ∧ acc.length < sizeLine ∧ Nx (upd H4 D (.lst (acc ++ [y]))) else Nx H3) := by
  subst eK
  have len := paired_len hrs
  refine lc_list (K := K1) (a := a) (xs := ts.map V.ref) (fun j H2 => Kx H0 H2 ∧ ∃ us : List Addr, H2 D = some (.lst (us.map V.ref)) ∧ RowsAt H2 us (rs.take j) ∧ us.Nodup ∧ (∀ u ∈ us, H0 u = none ∧ u ≠ D) ∧ us.length = j)
      ⟨Kx.new nD, [], upd_same, .nil, List.nodup_nil, fun u h => absurd h (by simp), rfl⟩ (fun i H2 _ h => h.1.l hl) ?_ ?_
  · rintro j y H2 hj ⟨k2, us, hd2, hus, nus, fus, lus⟩
    obtain ⟨t, ht, rfl⟩ : ∃ t, ts[j]? = some t ∧ V.ref t = y := by
      rw [List.getElem?_map] at hj
      exact Option.map_eq_some_iff.mp hj
    obtain ⟨r, hr, hsq, hle⟩ := paired_at hrs ht
    have hjl : j < ts.length := (List.getElem?_eq_some_iff.mp ht).1
    refine ⟨hw _, yesT ?_⟩
    refine ⟨_, hg _, t, _, rfl, .inl (k2.l hsq), fun u nu => ?_⟩
    have k3 : Kx H2 (upd H2 u (.lst (r.map V.int))) := Kx.new nu
    have nuD : u ≠ D := fun z => by rw [z, hd2] at nu; cases nu
    refine ⟨_, k3.lst hd2, by rw [List.length_map]; exact lt80 (by omega), (k2.trans k3).mut nD, us ++ [u], by rw [upd_same, List.map_append] <;> rfl, ?_, ?_, fun y hy => ?_, by rw [List.length_append, lus] <;> rfl⟩
    · rw [List.take_add_one, hr]
      refine RowsAt.up (paired_snoc (hus.k k3) ⟨upd_same, hle⟩) fun y hy => ?_
      rcases List.mem_append.mp hy with hy | hy
      · exact (fus y hy).2
      · rw [List.mem_singleton.mp hy]
        exact nuD
    · refine List.nodup_append.mpr ⟨nus, List.nodup_cons.mpr ⟨by simp, List.nodup_nil⟩, fun x hx y hy e => ?_⟩
      rw [List.mem_singleton.mp hy] at e
      subst e
      obtain ⟨i, hi⟩ := List.mem_iff_getElem?.mp hx
      obtain ⟨r', _, h1, _⟩ := paired_at hus hi
      rw [nu] at h1
      cases h1
    · rcases List.mem_append.mp hy with hy | hy
      · exact fus y hy
      · rw [List.mem_singleton.mp hy]
        exact ⟨k2.f _ nu, nuD⟩
  · rintro H2 ⟨k2, us, hd2, hus, nus, fus, lus⟩
    rw [List.length_map, len, List.take_length] at hus
    exact hd H2 us k2 hd2 hus nus fus
end CH
end

section
set_option Elab.async false
set_option linter.all false
set_option maxRecDepth 100000
set_option maxHeartbeats 4000000
namespace CH
open PySem PySem.Spec PyProof.Rows L2
theorem sql_up {K : PySem.W.Frag} {H : Hp} {a p : Addr} {xs : List V} {o : HO} (h : SqL K H a xs) (n : a ≠ p) : SqL K (upd H p o) a xs := by
  rcases h with h | h
  · refine .inl ?_
    rcases h with h | ⟨ob, h⟩
    · exact .inl (by rw [upd_ne n]; exact h)
    · exact .inr ⟨ob, by rw [upd_ne n]; exact h⟩
  · exact .inr h
/-- a short list of numbers, that is not z -/
def IsOk (K : PySem.W.Frag) (H : Hp) (z q : Addr) : Prop := ∃ ns : List Int, SqL K H q (ns.map V.int) ∧ ns.length ≤ 900 ∧ q ≠ z
theorem IsOk.k {K : PySem.W.Frag} {H H' : Hp} {z q : Addr} (k : Kx H H') (h : IsOk K H z q) : IsOk K H' z q := by
  obtain ⟨ns, a, b, c⟩ := h
  exact ⟨ns, k.l a, b, c⟩
theorem IsOk.up {K : PySem.W.Frag} {H : Hp} {z q : Addr} {o : HO} (h : IsOk K H z q) : IsOk K (upd H z o) z q := by
  obtain ⟨ns, a, b, c⟩ := h
  exact ⟨ns, sql_up a c, b, c⟩
/-- a list of rows, few and short; z is none of them -/
def RsX (K : PySem.W.Frag) (H : Hp) (z q : Addr) : Prop := ∃ (ts : List Addr) (rs : List (List Int)), SqL K H q (ts.map V.ref) ∧ RowsIn K H ts rs ∧ rs.length ≤ 100 ∧ (∀ x ∈ rs, x.length ≤ 900) ∧ q ≠ z ∧ ∀ t ∈ ts, t ≠ z
theorem RsX.k {K : PySem.W.Frag} {H H' : Hp} {z q : Addr} (k : Kx H H') (h : RsX K H z q) : RsX K H' z q := by
  obtain ⟨ts, rs, a, b, c, d, e, f⟩ := h
  exact ⟨ts, rs, k.l a, b.k k, c, d, e, f⟩
theorem rowsIn_up {K : PySem.W.Frag} {H : Hp} {z : Addr} {o : HO} {ts : List Addr} {rs : List (List Int)} (h : RowsIn K H ts rs) (n : ∀ t ∈ ts, t ≠ z) : RowsIn K (upd H z o) ts rs := by
  induction h with
  | nil => exact .nil
  | @cons t r ts rs a b ih => exact .cons ⟨sql_up a.1 (n t List.mem_cons_self), a.2⟩ (ih fun t ht => n t (List.mem_cons_of_mem _ ht))
theorem RsX.up {K : PySem.W.Frag} {H : Hp} {z q : Addr} {o : HO} (h : RsX K H z q) : RsX K (upd H z o) z q := by
  obtain ⟨ts, rs, a, b, c, d, e, f⟩ := h
  exact ⟨ts, rs, sql_up a e, rowsIn_up b f, c, d, e, f⟩
/-- rows[:spot] + X + rows[spot + 1:], X a list of one row -/
theorem put_row {K K1 : PySem.W.Frag} {iR iS : Nat} {σ : L2.St} {H : Hp} {Q : VK} {X : TE} {R : Addr} {us : List Addr} {rs : List (List Int)} {sp : Nat} (e : K1 = K) (h1 : σ[iR]? = some (some (.ref R))) (h2 : σ[iS]? = some (some (.int (sp : Int))))
    (hR : H R = some (.lst (us.map V.ref))) (hus : RowsAt H us rs) (l50 : rs.length ≤ 50) (l8 : ∀ x ∈ rs, x.length ≤ 8) {z : Addr} {oz : HO} (hz : H z = some oz) (nz : ∀ t ∈ us, t ≠ z)
    (hX : ∀ H', Kx H H' → ∀ Q' : VK, (∀ (H1 : Hp) (xl q : Addr), Kx H' H1 → H1 xl = some (.lst [.ref q]) → IsOk K H1 z q → Q' (.ref xl) H1) → X σ H' Q') (q : ∀ (H' : Hp) (p : Addr), Kx H H' → H p = none → RsX K H' z p → Q (.ref p) H') :
    tOp rCat (tOp rCat (tSl (rSlL K1) (tVar iR) tNoPart (tPart (tVar iS))) X) (tSl (rSlL K1) (tVar iR) (tPart (tOp (rI0 fun i j => V.int (i + j)) (tVar iS) (tC (.int 1)))) tNoPart) σ H Q := by
  subst e
  have len := paired_len hus
  refine ⟨_, h1, _, h2, _, rfl, R, _, rfl, sq_of hR, fun p1 n1 => ?_⟩
  rw [cutV_take, ← List.map_take]
  have k1 : Kx H (upd H p1 (.lst ((us.take sp).map V.ref))) := Kx.new n1
  have hp1 : (upd H p1 (.lst ((us.take sp).map V.ref))) p1 = some (.lst ((us.take sp).map V.ref)) := upd_same
  generalize upd H p1 (.lst ((us.take sp).map V.ref)) = H1 at k1 hp1 ⊢
  refine hX H1 k1 _ fun H2 xl x k2 hxl hx => ?_
  refine ⟨p1, xl, _, _, rfl, rfl, k2.lst hp1, hxl, by rw [List.length_map, List.length_take]; show _ + 1 ≤ sizeLine; exact small80 (by omega), fun p3 n3 => ?_⟩
  rw [show (us.take sp).map V.ref ++ [V.ref x] = (us.take sp ++ [x]).map V.ref by rw [List.map_append] <;> rfl]
  have k3 : Kx H2 (upd H2 p3 (.lst ((us.take sp ++ [x]).map V.ref))) := Kx.new n3
  have hp3 : (upd H2 p3 (.lst ((us.take sp ++ [x]).map V.ref))) p3 = some (.lst ((us.take sp ++ [x]).map V.ref)) := upd_same
  generalize upd H2 p3 (.lst ((us.take sp ++ [x]).map V.ref)) = H3 at k3 hp3 ⊢
  have k03 := (k1.trans k2).trans k3
  refine ⟨_, h1, _, h2, _, _, rfl, rfl, _, rfl, R, _, rfl, sq_of (k03.lst hR), fun p4 n4 => ?_⟩
  rw [show ((sp : Int) + 1) = ((sp + 1 : Nat) : Int) from rfl, cutV_drop, ← List.map_drop]
  have k4 : Kx H3 (upd H3 p4 (.lst ((us.drop (sp + 1)).map V.ref))) := Kx.new n4
  have hp4 : (upd H3 p4 (.lst ((us.drop (sp + 1)).map V.ref))) p4 = some (.lst ((us.drop (sp + 1)).map V.ref)) := upd_same
  generalize upd H3 p4 (.lst ((us.drop (sp + 1)).map V.ref)) = H4 at k4 hp4 ⊢
  refine ⟨p3, p4, _, _, rfl, rfl, k4.lst hp3, hp4, by rw [List.length_map, List.length_map, List.length_append, List.length_take, List.length_drop]; show _ + 1 + _ ≤ sizeLine; exact small80 (by omega), fun p5 n5 => ?_⟩
  rw [← List.map_append]
  have k5 : Kx H4 (upd H4 p5 (.lst ((us.take sp ++ [x] ++ us.drop (sp + 1)).map V.ref))) := Kx.new n5
  have k05 := (k03.trans k4).trans k5
  obtain ⟨ns, hns, l900, nxz⟩ := hx
  have npz : p5 ≠ z := fun e => by rw [e] at n5; rw [(k03.trans k4).f _ n5] at hz; cases hz
  refine q _ p5 k05 ((k03.trans k4).f _ n5) ⟨_, rs.take sp ++ [ns] ++ rs.drop (sp + 1), sq_of upd_same, ?_, ?_, fun y hy => ?_, npz, fun t ht => ?_⟩
  · have hin := (RowsAt.in_ (K := K1) hus).k k05
    exact ((hin.take sp).app (.cons ⟨((k3.trans k4).trans k5).l hns, by omega⟩ .nil)).app (hin.drop (sp + 1))
  · rw [List.length_append, List.length_append, List.length_take, List.length_drop]
    show _ + 1 + _ ≤ 100
    omega
  · rcases List.mem_append.mp hy with hy | hy
    · rcases List.mem_append.mp hy with hy | hy
      · have := l8 y (List.mem_of_mem_take hy)
        omega
      · rw [List.mem_singleton.mp hy]
        exact l900
    · have := l8 y (List.mem_of_mem_drop hy)
      omega
  · rcases List.mem_append.mp ht with ht | ht
    · rcases List.mem_append.mp ht with ht | ht
      · exact nz t (List.mem_of_mem_take ht)
      · rw [List.mem_singleton.mp ht]
        exact nxz
    · exact nz t (List.mem_of_mem_drop ht)
end CH
end

section
set_option Elab.async false
set_option linter.all false
/-! facts of classes of errors, as Bools over the written part -/
namespace CH
open PySem PySem.Spec PyProof.Rows L2
def excCB (K : PySem.W.Frag) (D : Addr) : Bool :=
  He.eqO (PySem.W.findIn K (.ref D) "__getattribute__") (some (some (.builtin "BaseException.__getattribute__"))) && (He.eqO (PySem.W.findIn K (.ref D) "__getattr__") (some none) && (decide (PySem.W.subIn K (.ref D) (.type "BaseException") = some true) && (PySem.W.hasDictIn K D &&
  (He.eqO (PySem.W.findIn K (.ref D) "__class__") (some (some (.builtin "object.__class__"))) && (He.eqO (PySem.W.specialIn K (.builtin "object.__class__") "__get__") (some (some (.builtin "getset_descriptor.__get__"))) && (decide (PySem.W.takesIn K (.builtin "object.__class__") = some true) && decide (PySem.W.mroIn K D (.type "object") = some true)))))))
theorem excCB_ok {K : PySem.W.Frag} {D : Addr} (h : excCB K D = true) : ExcC K D := by
  obtain ⟨h1, h⟩ := He.ba h
  obtain ⟨h2, h⟩ := He.ba h
  obtain ⟨h3, h⟩ := He.ba h
  obtain ⟨h4, h⟩ := He.ba h
  obtain ⟨h5, h⟩ := He.ba h
  obtain ⟨h6, h⟩ := He.ba h
  obtain ⟨h7, h8⟩ := He.ba h
  exact ⟨He.eqO_ok h1, He.eqO_ok h2, of_decide_eq_true h3, h4, He.eqO_ok h5, He.eqO_ok h6, of_decide_eq_true h7, of_decide_eq_true h8⟩
def kitEB (K : PySem.W.Frag) (x y : Str) (b : Bool) : Bool := decide (PySem.W.kitOne K (.ref (He.ga K x)) (.ref (He.ga K y)) = some b)
theorem kitEB_ok {K : PySem.W.Frag} {x y : Str} {b : Bool} (h : kitEB K x y b = true) : PySem.W.kitOne K (.ref (He.ga K x)) (.ref (He.ga K y)) = some b := of_decide_eq_true h
theorem exn_of {K : PySem.W.Frag} {h : Heap} {mg : Str → Option Value} {x : Str} (X : K.In h) (G : h.Ns mainGlobals mg) (g : (He.Fa.glo x).ok K = true) (e : (He.Fa.exc x).ok K = true) (c : excCB K (He.ga K x) = true) : Exn K mg x (He.ga K x) := by
  obtain ⟨e1, e2, e3, e4⟩ := He.exc_ok e
  exact ⟨He.glo_ok X G g, e1, e2, e3, e4, excCB_ok c⟩
def ownB (K : PySem.W.Frag) (C : Addr) : Bool :=
  He.eqO (PySem.W.findIn K (.ref C) "__class__") (some (some (.builtin "object.__class__"))) && (He.eqO (PySem.W.specialIn K (.builtin "object.__class__") "__get__") (some (some (.builtin "getset_descriptor.__get__"))) && (decide (PySem.W.takesIn K (.builtin "object.__class__") = some true) && decide (PySem.W.mroIn K C (.type "object") = some true)))
theorem own_of {K : PySem.W.Frag} {mg : Str → Option Value} {x : Str} {C : Addr} (g : mg x = some (.ref C)) (cl : Cls K C) (h : ownB K C = true) : Own K mg x C := by
  obtain ⟨h1, h⟩ := He.ba h
  obtain ⟨h2, h⟩ := He.ba h
  obtain ⟨h3, h4⟩ := He.ba h
  exact ⟨g, cl, He.eqO_ok h1, He.eqO_ok h2, of_decide_eq_true h3, of_decide_eq_true h4⟩
theorem codeAt_of {K : PySem.W.Frag} {x qual : Str} {st : Stmt} {dvs : List V} {p : Str × Option Str} {fd : FuncData} (F : FnQ K x qual st dvs (He.fAd K p) fd) : CodeAt K (He.fAd K p) (He.codeOf K p) := fun oc od osl fd' lk' => by
  obtain ⟨oc1, od1, dV, kV, doc, pm, an, cdv, ct, osl1, rfl, lk, hcd, _, _⟩ := F.ex
  obtain ⟨c', ec⟩ := He.codeIn_ref hcd
  have e2 : He.codeOf K p = c' := He.codeOf_eq lk ec
  rw [lk] at lk'
  cases lk'
  rw [e2]
  exact ec
theorem defQ_of {K : PySem.W.Frag} {mg : Str → Option Value} {x : Str} {st : Stmt} {dvs : List V} (F : ∃ fd, FnQ K x x st dvs (He.fAd K (x, none)) fd) (hm : mg x = some (.ref (He.ga K x))) : DefQ K mg x st dvs (He.codeOf K (x, none)) := by
  obtain ⟨fd, F⟩ := F
  exact ⟨_, fd, F, hm, codeAt_of F⟩
theorem metT_of {K : PySem.W.Frag} {x m qual : Str} {st : Stmt} (F : ∃ fd, FnQ K m qual st [] (He.fAd K (x, some m)) fd) (hm : Meth K (He.ga K x) m (He.ma K (He.ga K x) m)) (cl : Cls K (He.ga K x)) : MetT K (He.ga K x) m qual st (He.codeOf K (x, some m)) := by
  obtain ⟨fd, F⟩ := F
  exact ⟨_, fd, F, hm, cl, codeAt_of F⟩
theorem makT_of {K : PySem.W.Frag} {mg : Str → Option Value} {x qual : Str} {st : Stmt} (F : ∃ fd, FnQ K "__init__" qual st [] (He.fAd K (x, some "__init__")) fd) (hm : Mk K (He.ga K x) (He.ma K (He.ga K x) "__init__")) (g : mg x = some (.ref (He.ga K x))) : MakT K mg x (He.ga K x) qual st (He.codeOf K (x, some "__init__")) := by
  obtain ⟨fd, F⟩ := F
  exact ⟨_, fd, F, hm, g, codeAt_of F⟩
end CH
end

section
set_option Elab.async false
set_option linter.all false
namespace CH
open PySem L2
def top (i : Nat) : Stmt := PySem.Challenge.pw_commonhour_k04_first_by_hand.main.body.getD i (.Pass ⟨0, 0, 0, 0⟩)
/-- what the head says of the module's names: built-ins are free, the constants -/
structure Tx (K : PySem.W.Frag) (mg : Str → Option Value) (aA : Addr) : Prop where
  z_abs : mg "abs" = none
  z_all : mg "all" = none
  z_any : mg "any" = none
  z_bool : mg "bool" = none
  z_enumerate : mg "enumerate" = none
  z_int : mg "int" = none
  z_isinstance : mg "isinstance" = none
  z_len : mg "len" = none
  z_list : mg "list" = none
  z_range : mg "range" = none
  z_set : mg "set" = none
  z_sorted : mg "sorted" = none
  z_sum : mg "sum" = none
  z_tuple : mg "tuple" = none
  c_HOURS : ∃ u, mg "HOURS" = some u ∧ RelV (.int 12) u
  c_YES : ∃ u, mg "YES" = some u ∧ RelV (.ref (He.ga K "YES")) u
  h_YES : ∀ H, SqT K H (He.ga K "YES") ((["yes"] : List Str).map V.str)
end CH
end

section
set_option Elab.async false
set_option linter.all false
set_option maxRecDepth 100000
set_option maxHeartbeats 4000000
namespace CH
open PySem PySem.Spec PyProof.Rows L2
open GxR (TabB TabG Tabbed)
section
variable {P : Program} {w : World} {K : PySem.W.Frag} {mg : Str → Option Value} {base : Heap} {c aA : Addr}
abbrev st_is_whole : Stmt := top 2
abbrev nm_is_whole : List Str := ["value"]
theorem sc_is_whole : FnScope nm_is_whole ["value"] (defScope st_is_whole) := C8.fnScope_by (by decide +kernel)
def sp_is_whole : Sp := fun vs H Q _ => ∃ (v : Int), vs = [.int v] ∧ Q (.bl true) H
theorem ok_is_whole (D : DefT K mg "is_whole" st_is_whole c) (T : Tx K mg aA) : C8.Cal P w K mg base 1 "is_whole" sp_is_whole [] := by
  refine cal_of D sc_is_whole (fun _ _ _ _ _ _ us hl => match us, hl with | [_], _ => rfl) (fun vs H Q E h => ?_) (fun f A outer s H vs Q E hr h => ?_)
  · obtain ⟨v, rfl, _⟩ := h
    rfl
  · obtain ⟨v, rfl, q⟩ := h
    have nd := sc_is_whole.nd
    refine ⟨_, (pss_one (ps_ret (pe_and (pe_callB call_isi (by rfl) T.z_isinstance (by decide +kernel) (pa_cons (pv 0) (pa_cons (pe_bltn (v := .ty "int") (by rfl) T.z_int (by decide +kernel) rfl) pa_nil))) (pe_one (pe_not (pe_callB call_isi (by rfl) T.z_isinstance (by decide +kernel) (pa_cons (pv 0) (pa_cons (pe_bltn (v := .ty "bool") (by rfl) T.z_bool (by decide +kernel) rfl) pa_nil)))))))), ?_⟩
    refine ⟨_, rfl, .int v, .ty "int", .type "int", .type "int", true, rfl, .ty _, .base (.int v), kit_ty (by decide +kernel), true, rfl, ?_⟩
    refine iteT ⟨_, rfl, .int v, .ty "bool", .type "int", .type "bool", false, rfl, .ty _, .base (.int v), kit_ty (by decide +kernel), false, rfl, ?_⟩
    exact q
abbrev st_is_number : Stmt := top 3
abbrev nm_is_number : List Str := ["value", "least", "most"]
theorem sc_is_number : FnScope nm_is_number ["value", "least", "most"] (defScope st_is_number) := C8.fnScope_by (by decide +kernel)
def sp_is_number : Sp := fun vs H Q _ => ∃ (v lo hi : Int), vs = [.int v, .int lo, .int hi] ∧ Q (.bl (decide (lo ≤ v ∧ v ≤ hi))) H
theorem ok_is_number (D : DefT K mg "is_number" st_is_number c) (f_is_whole : C8.Cal P w K mg base 1 "is_whole" sp_is_whole []) : C8.Cal P w K mg base 2 "is_number" sp_is_number [] := by
  refine cal_of D sc_is_number (fun _ _ _ _ _ _ us hl => match us, hl with | [_, _, _], _ => rfl) (fun vs H Q E h => ?_) (fun f A outer s H vs Q E hr h => ?_)
  · obtain ⟨v, lo, hi, rfl, _⟩ := h
    rfl
  · obtain ⟨v, lo, hi, rfl, q⟩ := h
    have nd := sc_is_number.nd
    refine ⟨_, (pss_one (ps_ret (pe_and (C8.pe_c f_is_whole hr (by decide) (by rfl) (pa_cons (pv 0) pa_nil)) (pe_one (pe_chain op_le op_le (pv 1) (pv 0) (pv 2)))))), ?_⟩
    refine ⟨_, rfl, v, rfl, true, rfl, iteT ?_⟩
    refine ⟨_, rfl, _, rfl, _, _, rfl, rfl, _, rfl, ?_⟩
    by_cases h1 : lo ≤ v
    · rw [decide_eq_true h1]
      refine iteT ⟨_, rfl, _, _, rfl, rfl, ?_⟩
      rw [show decide (lo ≤ v ∧ v ≤ hi) = decide (v ≤ hi) by simp [h1]] at q
      exact q
    · rw [decide_eq_false h1]
      refine iteF ?_
      rw [show decide (lo ≤ v ∧ v ≤ hi) = false by simp [h1]] at q
      exact q
abbrev st_is_hour : Stmt := top 4
abbrev nm_is_hour : List Str := ["value"]
theorem sc_is_hour : FnScope nm_is_hour ["value"] (defScope st_is_hour) := C8.fnScope_by (by decide +kernel)
def sp_is_hour : Sp := fun vs H Q _ => ∃ (v : Int), vs = [.int v] ∧ Q (.bl (decide (0 ≤ v ∧ v ≤ 11))) H
theorem ok_is_hour (D : DefT K mg "is_hour" st_is_hour c) (T : Tx K mg aA) (f_is_number : C8.Cal P w K mg base 2 "is_number" sp_is_number []) : C8.Cal P w K mg base 3 "is_hour" sp_is_hour [] := by
  refine cal_of D sc_is_hour (fun _ _ _ _ _ _ us hl => match us, hl with | [_], _ => rfl) (fun vs H Q E h => ?_) (fun f A outer s H vs Q E hr h => ?_)
  · obtain ⟨v, rfl, _⟩ := h
    rfl
  · obtain ⟨v, rfl, q⟩ := h
    have nd := sc_is_hour.nd
    refine ⟨_, (pss_one (ps_ret (C8.pe_c f_is_number hr (by decide) (by rfl) (pa_cons (pv 0) (pa_cons pe_int (pa_cons (pe_op op_sub (C8.pe_gc (by rfl) T.c_HOURS) pe_int) pa_nil)))))), ?_⟩
    exact ⟨_, rfl, _, _, rfl, rfl, v, 0, 11, rfl, q⟩
end
end CH
end

section
set_option Elab.async false
set_option linter.all false
set_option maxRecDepth 100000
set_option maxHeartbeats 4000000
namespace CH
open PySem PySem.Spec PyProof.Rows L2
open GxR (TabB TabG Tabbed)
section
variable {P : Program} {w : World} {K : PySem.W.Frag} {mg : Str → Option Value} {base : Heap} {c aA : Addr}
end
end CH
end

section
set_option Elab.async false
set_option linter.all false
set_option maxRecDepth 100000
set_option maxHeartbeats 4000000
namespace CH
open PySem PySem.Spec PyProof.Rows L2
open GxR (TabB TabG Tabbed)
section
variable {P : Program} {w : World} {K : PySem.W.Frag} {mg : Str → Option Value} {base : Heap} {c aA : Addr}
end
end CH
end

section
set_option Elab.async false
set_option linter.all false
set_option maxRecDepth 100000
set_option maxHeartbeats 4000000
namespace CH
open PySem PySem.Spec PyProof.Rows L2
open GxR (TabB TabG Tabbed)
section
variable {P : Program} {w : World} {K : PySem.W.Frag} {mg : Str → Option Value} {base : Heap} {c aA cm : Addr}
end
end CH
end

section
set_option Elab.async false
set_option linter.all false
set_option maxRecDepth 100000
set_option maxHeartbeats 4000000
namespace CH
open PySem PySem.Spec PyProof.Rows L2
open GxR (TabB TabG Tabbed)
section
variable {P : Program} {w : World} {K : PySem.W.Frag} {mg : Str → Option Value} {base : Heap} {c aA cc cm : Addr}
abbrev st_answers_that_count : Stmt := top 7
abbrev nm_answers_that_count : List Str := ["words", "answers", "word", "person", "hour", "answer"]
theorem sc_answers_that_count : FnScope nm_answers_that_count ["words"] (defScope st_answers_that_count) := C8.fnScope_by (by decide +kernel)
def sp_answers_that_count (K : PySem.W.Frag) : Sp := fun vs H Q _ => ∃ (l : Addr) (ts : List Addr) (ws : List Wd), vs = [.ref l] ∧ SqL K H l (ts.map V.ref) ∧ TAt H ts ws ∧ ws.length ≤ 200 ∧ Alike ws ∧
  ∀ (H' : Hp) (d : Addr) (kvs : List (List Key × V)), Kx H H' → H d = none → H' d = some (.dT kvs) → AnsD kvs (ansW ws) → Q (.ref d) H'
theorem ok_answers_that_count (D : DefT K mg "answers_that_count" st_answers_that_count c) (T : Tx K mg aA) : C8.Cal P w K mg base 1 "answers_that_count" (sp_answers_that_count K) [] := by
  refine cal_of D sc_answers_that_count (fun _ _ _ _ _ _ us hl => match us, hl with | [_], _ => rfl) (fun vs H Q E h => ?_) (fun f A outer s H vs Q E hr h => ?_)
  · obtain ⟨l, ts, us, rfl, _⟩ := h
    rfl
  · obtain ⟨l, ts, ws, rfl, hl, hw, h200, hal, q⟩ := h
    have nd := sc_answers_that_count.nd
    have hu := hu_of hr
    refine ⟨_, (pss_cons (ps_set (i := 1) nd rfl (Or.inl rfl) pe_dnewT)
      (pss_cons (ps_for PassesOwn.never rfl (pi_list (pe_callB cr_sortedWd (by rfl) T.z_sorted (by decide +kernel) (pa_cons (pv 0) pa_nil))) (pg_name (i := 2) nd rfl (Or.inl rfl)) (pss_cons (ps_asg (pe_slice sl_tup (pv 2) (po_some pe_int) po_none) (pg_tup (by rfl) (pgs_cons (pg_name (i := 3) nd rfl (Or.inl rfl)) (pgs_cons (pg_name (i := 4) nd rfl (Or.inl rfl)) (pgs_cons (pg_name (i := 5) nd rfl (Or.inl rfl)) pgs_nil)))))
      (pss_one (ps_dput hu (pv 1) (pe_tup (pa_cons (pv 3) (pa_cons (pv 4) pa_nil))) (pv 5) rfl))))
      (pss_one (ps_ret (pv 1))))), ?_⟩
    intro d nd0
    have k0 : Kx H (upd H d (.dT [])) := Kx.new nd0
    obtain ⟨qs, eq1, eq2, hqs⟩ := tat_qs (hw.k k0)
    refine ⟨_, rfl, l, ts, wkOf (upd H d (.dT [])), 4, rfl, k0.l hl, by decide, fun t ht => ?_, fun ts' r hperm hsort nr => ?_⟩
    · obtain ⟨q0, hq0, rfl⟩ := List.mem_map.mp (eq1 ▸ ht)
      have e := wkOf_eq (hqs q0 hq0)
      rw [e]
      exact ⟨st_of (hqs q0 hq0), rfl⟩
    obtain ⟨us, hus, hpm, hso⟩ := srt_of hqs (eq1.symm ▸ hperm) hsort
    rw [eq2] at hpm
    have k1 : Kx (upd H d (.dT [])) (upd (upd H d (.dT [])) r (.lst (ts'.map V.ref))) := Kx.new nr
    have hr1 : (upd (upd H d (.dT [])) r (.lst (ts'.map V.ref))) r = some (.lst (ts'.map V.ref)) := upd_same
    have hd1 := k1.dt (show (upd H d (.dT [])) d = some (.dT []) from upd_same)
    have hw1 := hus.k k1
    generalize upd (upd H d (.dT [])) r (.lst (ts'.map V.ref)) = H1 at k1 hr1 hd1 hw1 ⊢
    have k01 := k0.trans k1
    have len := paired_len hw1
    have lus : us.length ≤ 200 := by
      rw [hpm.length_eq]
      exact h200
    refine ⟨r, rfl, ⟨_, sq_of hr1⟩, for_list (K := K) (a := r) (xs := ts'.map V.ref) (fun i σ H2 => ∃ (kvs : List (List Key × V)) (v2 v3 v4 v5 : Option V), σ = [some (.ref l), some (.ref d), v2, v3, v4, v5] ∧ Kx H H2 ∧ H2 r = some (.lst (ts'.map V.ref)) ∧ TAt H2 ts' us ∧
        H2 d = some (.dT kvs) ∧ AnsD kvs (lastA (us.take i)) ∧ kvs.length ≤ i)
      ⟨[], none, none, none, none, rfl, k01, hr1, hw1, hd1, fun p o => rfl, Nat.le_refl _⟩ (fun i σ H2 _ ⟨_, _, _, _, _, _, _, hr2, _⟩ => sq_of hr2) ?_ ?_⟩
    · rintro i y σ H2 hi ⟨kvs, v2, v3, v4, v5, rfl, k2, hr2, hw2, hd2, ha2, hlk⟩
      obtain ⟨t, ht, rfl⟩ : ∃ t, ts'[i]? = some t ∧ V.ref t = y := by
        rw [List.getElem?_map] at hi
        exact Option.map_eq_some_iff.mp hi
      obtain ⟨x, hx, hs2⟩ := paired_at hw2 ht
      have hi2 : i < ts'.length := (List.getElem?_eq_some_iff.mp ht).1
      have e1 : us.take (i + 1) = us.take i ++ [x] := by rw [List.take_add_one, hx] <;> rfl
      refine ⟨_, rfl, 2, rfl, t, _, rfl, st_of hs2, not_whole2b x, fun p np => ?_⟩
      have k3 : Kx H2 (upd H2 p (.tup (cutV x.V (some 2) none))) := Kx.new np
      refine ⟨p, _, rfl, st_of upd_same, by rw [cut2b] <;> rfl, ?_⟩
      rw [cut2b]
      refine ⟨_, _, rfl, _, _, rfl, _, _, rfl, rfl, ?_⟩
      refine ⟨_, rfl, _, rfl, _, rfl, _, rfl, (by show 2 ≤ sizeLine; decide), fun k nk => ?_⟩
      have k4 : Kx (upd H2 p (.tup [.int x.p, .int x.o, .str x.a])) (upd (upd H2 p (.tup [.int x.p, .int x.o, .str x.a])) k (.tup [.int x.p, .int x.o])) := Kx.new nk
      rw [cut2b] at k3
      refine ⟨d, _, rfl, DPut.t (k := kPO x.p x.o) ((k3.trans k4).dt hd2) upd_same (lt80 (by omega)), ?_⟩
      have hd4 := (k3.trans k4).dt hd2
      refine ⟨putK kvs (kPO x.p x.o) (.str x.a), _, _, _, _, rfl, (k2.trans (k3.trans k4)).mut nd0, ?_, ((hw2.k k3).k k4).up hd4 (fun _ z => nomatch z), upd_same, fun p' o' => ?_, ?_⟩
      · have hr4 := (k3.trans k4).lst hr2
        rw [upd_ne (fun z => by rw [z, hd4] at hr4; cases hr4)]
        exact hr4
      · rw [valV_put, e1, lastA_snoc]
        by_cases e : x.p = p' ∧ x.o = o'
        · rw [if_pos e, if_pos (kPO_inj.mpr ⟨e.1.symm, e.2.symm⟩)]
          rfl
        · rw [if_neg e, if_neg (fun z => e ⟨(kPO_inj.mp z).1.symm, (kPO_inj.mp z).2.symm⟩)]
          exact ha2 p' o'
      · have := length_putK kvs (kPO x.p x.o) (.str x.a)
        omega
    · rintro σ H2 ⟨kvs, v2, v3, v4, v5, rfl, k2, hr2, hw2, hd2, ha2, hlk⟩
      rw [List.length_map, len, List.take_length] at ha2
      exact ⟨_, rfl, q H2 d kvs k2 nd0 hd2 fun p o => by rw [ha2 p o, lastA_srt hal hpm hso]⟩
abbrev st_answer_of : Stmt := top 8
abbrev nm_answer_of : List Str := ["person", "hour", "answers"]
theorem sc_answer_of : FnScope nm_answer_of ["person", "hour", "answers"] (defScope st_answer_of) := C8.fnScope_by (by decide +kernel)
def sp_answer_of : Sp := fun vs H Q _ => ∃ (d : Addr) (p o : Int) (kvs : List (List Key × V)) (f : Int → Int → Option Str), vs = [.int p, .int o, .ref d] ∧ H d = some (.dT kvs) ∧ AnsD kvs f ∧ ∀ H', Kx H H' → Q (.str ((f p o).getD "no")) H'
theorem ok_answer_of (D : DefT K mg "answer_of" st_answer_of c) : C8.Cal P w K mg base 1 "answer_of" sp_answer_of [] := by
  refine cal_of D sc_answer_of (fun _ _ _ _ _ _ us hl => match us, hl with | [_, _, _], _ => rfl) (fun vs H Q E h => ?_) (fun fa A outer s H vs Q E hr h => ?_)
  · obtain ⟨d, p, o, kvs, f, rfl, _⟩ := h
    rfl
  · obtain ⟨d, p, o, kvs, f, rfl, hd, hf, q⟩ := h
    have nd := sc_answer_of.nd
    have hu := hu_of hr
    refine ⟨_, (pss_one (ps_ret (pe_dget2 hu (pv 2) (pe_tup (pa_cons (pv 0) (pa_cons (pv 1) pa_nil))) pe_str ⟨rfl, rfl, rfl, rfl⟩))), ?_⟩
    refine ⟨_, rfl, d, rfl, .inr ⟨_, .inl hd⟩, _, rfl, _, rfl, (by show 2 ≤ sizeLine; decide), fun k nk => ?_⟩
    have k3 : Kx H (upd H k (.tup [.int p, .int o])) := Kx.new nk
    refine ⟨_, DGet.t (k := kPO p o) (k3.dt hd) upd_same, ?_⟩
    rw [hf p o]
    have e2 : ((f p o).map V.str).getD (.str "no") = .str ((f p o).getD "no") := by cases f p o <;> rfl
    rw [e2]
    exact q _ k3
abbrev st_can_be : Stmt := top 9
abbrev nm_can_be : List Str := ["meeting", "hour", "answers", "coming", "people", "enough", "needed", "ready", "person"]
theorem sc_can_be : FnScope nm_can_be ["meeting", "hour", "answers", "coming"] (defScope st_can_be) := C8.fnScope_by (by decide +kernel)
def sp_can_be (K : PySem.W.Frag) (cc : Addr) : Sp := fun vs H Q _ => ∃ (a d g : Addr) (m : Mt) (o : Int) (kvs : List (List Key × V)) (f : Int → Int → Option Str) (cs : List Str), vs = [.ref a, .int o, .ref d, .ref g] ∧ MAt K H a m ∧ m.ps.length ≤ 8 ∧ H d = some (.dT kvs) ∧ AnsD kvs f ∧
  SqT K H g (cs.map V.str) ∧ TabG H cc ∧ ∀ H', Kx H H' → Q (.bl (canB m cs fun x => (f x o).getD "no")) H'
theorem ok_can_be (D : DefT K mg "can_be" st_can_be c) (TB : TabB base mg c cc) (T : Tx K mg aA) (f_answer_of : C8.Cal P w K mg base 1 "answer_of" sp_answer_of []) : C8.Cal P w K mg base 2 "can_be" (sp_can_be K cc) [] := by
  refine cal_of D sc_can_be (fun _ _ _ _ _ _ us hl => match us, hl with | [_, _, _, _], _ => rfl) (fun vs H Q E h => ?_) (fun f A outer s H vs Q E hr h => ?_)
  · obtain ⟨a, d, g, m, o, kvs, f, cs, rfl, _⟩ := h
    rfl
  · obtain ⟨a, d, g, m, o, kvs, f, cs, rfl, ⟨p, n, ha, hp, hn⟩, h8, hd, hf, hg, tg, q⟩ := h
    have nd := sc_can_be.nd
    have hu := hu_of hr
    have hcode : (cxOf CX0 P w K mg base nm_can_be "can_be" (defScope st_can_be) ‹Addr› (.ref c) A outer s H E).nox.env.code = .ref c := rfl
    refine ⟨_, (pss_cons (ps_asg (pv 0) (pg_tup (by rfl) (pgs_cons (pg_name (i := 4) nd rfl (Or.inl rfl)) (pgs_cons (pg_name (i := 5) nd rfl (Or.inl rfl)) (pgs_cons (pg_name (i := 6) nd rfl (Or.inl rfl)) pgs_nil)))))
      (pss_cons (ps_set (i := 7) nd rfl (Or.inr rfl) (pe_lc (own := [("person", 8)]) (g := gName 8) (by rfl) nd (pi_tup (pv 4)) (blkOk_by (own := [("person", 8)]) (N := nm_can_be) (sc := defScope st_can_be) (by decide +kernel)) (fun _ _ _ _ _ => pg_name (i := 8) nd rfl (Or.inl rfl)) (fun _ _ _ _ _ => pts_one (pt_cmpR (show OpR _ (compareOp .In) (rIn K false) from op_in_seq) (C8.pe_c f_answer_of hr (by decide) (by rfl) (pa_cons (pv 8) (pa_cons (pv 1) (pa_cons (pv 2) pa_nil)))) (pv 3) (by rfl))) (fun _ _ _ _ _ => (pv 8))))
      (pss_one (ps_ret (pe_and (pe_cmpR op_ge (pe_callB call_len_seq (by rfl) T.z_len PySem.boot_len (pa_cons (pv 7) pa_nil)) (pv 5) (nomark _)) (pe_one (pe_allG hr (by rfl) T.z_all (by decide +kernel) TB hcode (gnS_by (sc := defScope st_can_be) (by decide +kernel)) (pv 6) (elt_in (y := "ready") (j := 7) (gnS_by (sc := defScope st_can_be) (by decide +kernel)) rfl (by decide +kernel) (show (defScope st_can_be).names.lookup ("ready" : Str) = some .cell by decide +kernel)) (fun _ => rfl)))))))), ?_⟩
    refine ⟨_, rfl, a, _, rfl, ha, rfl, _, _, rfl, _, _, rfl, _, _, rfl, rfl, ?_⟩
    -- ready
    refine ⟨_, rfl, p, rfl, ⟨_, hp⟩, fun D nD => ?_⟩
    have k0 : Kx H (upd H D (.lst [])) := Kx.new nD
    refine lc_tup (K := K) (a := p) (xs := m.ps.map V.int) (fun i H2 => Kx H H2 ∧ H2 D = some (.lst ((comeL (m.ps.take i) cs fun x => (f x o).getD "no").map V.int)))
      ⟨k0, upd_same⟩ (fun i H2 _ h => h.1.t hp) ?_ ?_
    · rintro i y H2 hi ⟨k2, hD2⟩
      obtain ⟨x, hx, rfl⟩ : ∃ x, m.ps[i]? = some x ∧ V.int x = y := by
        rw [List.getElem?_map] at hi
        exact Option.map_eq_some_iff.mp hi
      have e1 : m.ps.take (i + 1) = m.ps.take i ++ [x] := by rw [List.take_add_one, hx] <;> rfl
      refine ⟨rfl, _, rfl, _, rfl, _, rfl, d, x, o, kvs, f, rfl, k2.dt hd, hf, fun H3 k3 => ?_⟩
      refine ⟨_, rfl, g, _, rfl, .inr ((k2.trans k3).t hg), rfl, flat_str _, _, rfl, ?_⟩
      rw [if_neg Bool.false_ne_true, inV_str]
      have e3 : (comeL (m.ps.take (i + 1)) cs fun x => (f x o).getD "no") = (comeL (m.ps.take i) cs fun x => (f x o).getD "no") ++ (if decide ((f x o).getD "no" ∈ cs) = true then [x] else []) := by
        rw [e1]
        unfold comeL
        rw [List.filter_append]
        congr 1
        by_cases z : (f x o).getD "no" ∈ cs
        · rw [List.filter_cons_of_pos (by simpa using z), decide_eq_true z] <;> rfl
        · rw [List.filter_cons_of_neg (by simpa using z), decide_eq_false z] <;> rfl
      have hD3 := k3.lst hD2
      refine iteB (fun z => ?_) (fun z => ?_)
      · refine ⟨_, rfl, _, hD3, ?_, (k2.trans k3).mut nD, ?_⟩
        · rw [List.length_map]
          refine lt80 (Nat.lt_of_le_of_lt (List.length_filter_le _ _) ?_)
          rw [List.length_take]
          omega
        · rw [upd_same, e3, if_pos z, List.map_append] <;> rfl
      · refine ⟨k2.trans k3, ?_⟩
        rw [e3, z, if_neg Bool.false_ne_true, List.append_nil]
        exact hD3
    · rintro H2 ⟨k2, hD2⟩
      rw [List.length_map, List.take_length] at hD2
      generalize hL : (comeL m.ps cs fun x => (f x o).getD "no") = L at hD2
      have hq : ∀ H', Kx H H' → Q (.bl (decide (m.e ≤ (L.length : Int)) && m.nds.all fun x => decide (x ∈ L))) H' := fun H' k => by
        have z := q H' k
        unfold canB at z
        rw [hL] at z
        exact z
      refine ⟨_, rfl, D, _, rfl, .inl (sq_of hD2), _, rfl, _, _, rfl, rfl, _, rfl, ?_⟩
      rw [List.length_map]
      refine iteB (fun z => ?_) (fun z => ?_)
      · have z' : m.e ≤ (L.length : Int) := of_decide_eq_true z
        refine ⟨_, rfl, k2.g _ tg, n, _, _, rfl, .inr (k2.t hn), ⟨D, _, rfl, .inl (sq_of hD2), flat_int _, flat_int _, rfl⟩, by rw [List.length_map], fun H3 tb => ?_⟩
        have e : ((List.map (fun x => inV x (List.map V.int L)) (List.map V.int m.nds)).all id) = m.nds.all fun x => decide (x ∈ L) := by
          rw [List.map_map, List.all_map]
          congr 1
          funext x
          exact inV_int L
        show Q (.bl ((List.map (fun x => inV x (List.map V.int L)) (List.map V.int m.nds)).all id)) H3
        rw [e]
        have hq2 := hq H3 (k2.trans (Kx.tab (k2.g _ tg) tb))
        rw [decide_eq_true z', Bool.true_and] at hq2
        exact hq2
      · have z' : ¬ m.e ≤ (L.length : Int) := of_decide_eq_false z
        have hq2 := hq H2 k2
        rw [decide_eq_false z', Bool.false_and] at hq2
        exact hq2
end
end CH
end

section
set_option Elab.async false
set_option linter.all false
set_option maxRecDepth 100000
set_option maxHeartbeats 4000000
namespace CH
open PySem PySem.Spec PyProof.Rows L2
open GxR (TabB TabG Tabbed)
section
variable {P : Program} {w : World} {K : PySem.W.Frag} {mg : Str → Option Value} {base : Heap} {c aA cc cm : Addr}
abbrev st_hours_of : Stmt := top 10
abbrev nm_hours_of : List Str := ["meeting", "answers", "coming", "hour"]
theorem sc_hours_of : FnScope nm_hours_of ["meeting", "answers", "coming"] (defScope st_hours_of) := C8.fnScope_by (by decide +kernel)
def sp_hours_of (K : PySem.W.Frag) (cc : Addr) : Sp := fun vs H Q _ => ∃ (a d g : Addr) (m : Mt) (kvs : List (List Key × V)) (f : Int → Int → Option Str) (cs : List Str), vs = [.ref a, .ref d, .ref g] ∧ MAt K H a m ∧ m.ps.length ≤ 8 ∧ H d = some (.dT kvs) ∧ AnsD kvs f ∧
  SqT K H g (cs.map V.str) ∧ TabG H cc ∧ ∀ (H' : Hp) (r : Addr), Kx H H' → H r = none → H' r = some (.lst ((hoursL m cs fun x o => (f x o).getD "no").map V.int)) → Q (.ref r) H'
theorem body_hours_of (T : Tx K mg aA) (f_can_be : C8.Cal P w K mg base 2 "can_be" (sp_can_be K cc) []) : Bodies0 P w K mg base nm_hours_of "hours_of" st_hours_of c 2 (sp_hours_of K cc) := by
  intro fa A outer s H vs Q E hr h
  obtain ⟨a, d, g, m, kvs, f, cs, rfl, hm, h8, hd, hf, hg, tc, q⟩ := h
  have nd := sc_hours_of.nd
  refine ⟨_, (pss_one (ps_ret (pe_lc (own := [("hour", 3)]) (g := gName 3) (by rfl) nd (pi_range1 (by rfl) T.z_range (pa_cons (C8.pe_gc (by rfl) T.c_HOURS) pa_nil)) (blkOk_by (own := [("hour", 3)]) (N := nm_hours_of) (sc := defScope st_hours_of) (by decide +kernel)) (fun _ _ _ _ _ => pg_name (i := 3) nd rfl (Or.inl rfl)) (fun _ _ _ _ _ => pts_one (pt_val (C8.pe_c f_can_be hr (by decide) (by rfl) (pa_cons (pv 0) (pa_cons (pv 3) (pa_cons (pv 1) (pa_cons (pv 2) pa_nil))))))) (fun _ _ _ _ _ => (pv 3))))), ?_⟩
  refine ⟨12, rfl, by decide, by decide, fun D0 nD => ?_⟩
  have k4 : Kx H (upd H D0 (.lst [])) := Kx.new nD
  refine lc_range (lo := 0) (n := 12) (fun i H4 => Kx H H4 ∧ H4 D0 = some (.lst (((((List.range 12).take i).filter fun o => canB m cs fun x => (f x (Int.ofNat o)).getD "no").map Int.ofNat).map V.int)))
    ⟨k4, upd_same⟩ ?_ ?_
  · rintro i H4 hi ⟨k5, hD⟩
    refine ⟨rfl, _, rfl, _, rfl, _, rfl, _, rfl, a, d, g, m, 0 + (i : Int), kvs, f, cs, rfl, hm.k k5, h8, k5.dt hd, hf, k5.t hg, k5.g _ tc, fun H5 k6 => ⟨_, rfl, ?_⟩⟩
    rw [show (0 : Int) + (i : Int) = Int.ofNat i from Int.zero_add _]
    have hD5 := k6.lst hD
    have e1 := range_take (n := 12) hi
    refine iteB (fun z => ?_) (fun z => ?_)
    · refine ⟨_, rfl, _, hD5, ?_, (k5.trans k6).mut nD, ?_⟩
      · rw [List.length_map, List.length_map]
        refine lt80 (Nat.lt_of_le_of_lt (List.length_filter_le _ _) ?_)
        rw [List.length_take]
        omega
      · rw [upd_same, e1, filter_snoc, if_pos (by exact z), List.map_append, List.map_append] <;> rfl
    · refine ⟨k5.trans k6, ?_⟩
      have z' : ¬ ((canB m cs fun x => (f x (Int.ofNat i)).getD "no") = true) := by
        have z2 : (canB m cs fun x => (f x (Int.ofNat i)).getD "no") = false := z
        rw [z2]
        decide
      rw [e1, filter_snoc, if_neg (by exact z'), List.append_nil]
      exact hD5
  · rintro H4 ⟨k5, hD⟩
    exact q H4 D0 k5 nD hD
theorem len_hours_of {vs : List V} {H : Hp} {Q : VK} {E : XK} (h : sp_hours_of K cc vs H Q E) : vs.length = 3 := by
  obtain ⟨a, d, g, m, kvs, f, cs, rfl, _⟩ := h
  rfl
/-- all three are written -/
theorem ok_hours_of3 {v : V} (D : DefQ K mg "hours_of" st_hours_of [v] c) (T : Tx K mg aA) (f_can_be : C8.Cal P w K mg base 2 "can_be" (sp_can_be K cc) []) : C8.Cal P w K mg base 3 "hours_of" (sp_hours_of K cc) [] :=
  calQ_of (n := 3) (j := 1) D sc_hours_of (List.cons_ne_nil _ _) rfl (fun _ _ _ _ _ _ _ us its h1 h2 => match us, its, h1, h2 with | [_, _, _], [_], _, _ => ⟨_, rfl, rfl⟩) (fun _ _ _ _ h => len_hours_of h) (body_hours_of T f_can_be)
/-- the last one is the default -/
theorem ok_hours_of2 {v : V} (D : DefQ K mg "hours_of" st_hours_of [v] c) (T : Tx K mg aA) (f_can_be : C8.Cal P w K mg base 2 "can_be" (sp_can_be K cc) []) : C8.Cal P w K mg base 3 "hours_of" (sp_hours_of K cc) [v] :=
  calQ_of (n := 2) (j := 0) D sc_hours_of (List.cons_ne_nil _ _) rfl (fun _ _ _ _ _ _ _ us its h1 h2 => match us, its, h1, h2 with | [_, _], [_], _, _ => ⟨_, rfl, rfl⟩) (fun _ _ _ _ h => len_hours_of h) (body_hours_of T f_can_be)
end
end CH
end

section
set_option Elab.async false
set_option linter.all false
set_option maxRecDepth 100000
set_option maxHeartbeats 4000000
namespace CH
open PySem PySem.Spec PyProof.Rows L2
open GxR (TabB TabG Tabbed)
/-- below so many bits -/
def Bits (i : Int) (n : Nat) : Prop := i.natAbs < 2 ^ n
theorem Bits.mono {i : Int} {n m : Nat} (h : Bits i n) (l : n ≤ m) : Bits i m := Nat.lt_of_lt_of_le h (Nat.pow_le_pow_right (by decide) l)
theorem Bits.add {i j : Int} {n m k : Nat} (h1 : Bits i n) (h2 : Bits j m) (hn : n + 1 ≤ k) (hm : m + 1 ≤ k) : Bits (i + j) k := by
  have a := h1.mono (show n ≤ k - 1 by omega)
  have b := h2.mono (show m ≤ k - 1 by omega)
  have e : 2 ^ k = 2 ^ (k - 1) + 2 ^ (k - 1) := by
    have : k = (k - 1) + 1 := by omega
    rw [this, Nat.pow_succ]
    simp only [Nat.add_sub_cancel]
    omega
  have t := Int.natAbs_add_le i j
  unfold Bits at a b ⊢
  rw [e]
  omega
theorem Bits.mul {i j : Int} {n m k : Nat} (h1 : Bits i n) (h2 : Bits j m) (hk : n + m ≤ k) : Bits (i * j) k := by
  have z : Bits (i * j) (n + m) := by
    unfold Bits at h1 h2 ⊢
    rw [Int.natAbs_mul, Nat.pow_add]
    exact Nat.mul_lt_mul'' h1 h2
  exact z.mono hk
theorem Bits.of {i : Int} {n : Nat} (h1 : 0 ≤ i) (h2 : i < 2 ^ n) : Bits i n := by
  unfold Bits
  have e : ((i.natAbs : Nat) : Int) = i := Int.natAbs_of_nonneg h1
  have h3 : ((i.natAbs : Nat) : Int) < ((2 ^ n : Nat) : Int) := by
    rw [e]
    have : ((2 ^ n : Nat) : Int) = (2 : Int) ^ n := by simp
    rw [this]
    exact h2
  exact Int.ofNat_lt.mp h3
section
variable {P : Program} {w : World} {K : PySem.W.Frag} {mg : Str → Option Value} {base : Heap} {c aA cc cm : Addr}
abbrev st_law_number : Stmt := top 20
abbrev nm_law_number : List Str := ["_law_cell", "_law_at", "_law_whole", "_law_blend", "_law_more"]
theorem sc_law_number : FnScope nm_law_number ["_law_cell", "_law_at", "_law_whole"] (defScope st_law_number) := C8.fnScope_by (by decide +kernel)
def sp_law_number : Sp := fun vs H Q _ => ∃ (ce at_ wh : Int), vs = [.int ce, .int at_, .int wh] ∧ Bits ce 2000000 ∧ 0 ≤ at_ ∧ at_ ≤ 100000 ∧ ∀ r : Int, Q (.int r) H
theorem ok_law_number (D : DefT K mg "_law_number" st_law_number c) : C8.Cal P w K mg base 1 "_law_number" sp_law_number [] := by
  refine cal_of D sc_law_number (fun _ _ _ _ _ _ us hl => match us, hl with | [_, _, _], _ => rfl) (fun vs H Q E h => ?_) (fun f A outer s H vs Q E hr h => ?_)
  · obtain ⟨ce, at_, wh, rfl, _⟩ := h
    rfl
  · obtain ⟨ce, at_, wh, rfl, hb, h0, h1, q⟩ := h
    have nd := sc_law_number.nd
    refine ⟨_, (pss_cons (ps_if (pt_cmpR op_ge (pv 0) (pe_op op_pow pe_int pe_int) (nomark _)) (pss_one (ps_ret (pe_op op_fdiv (pv 0) (pe_op op_add pe_int (pe_op op_mod (pv 1) pe_int))))) pss_nil)
      (pss_cons (ps_set (i := 3) nd rfl (Or.inl rfl) (pe_op op_mod (pe_op op_add (pe_op op_mul (pe_op op_add (pv 0) (pe_op op_mul pe_int (pv 1))) pe_int) (pv 2)) pe_int))
      (pss_cons (ps_set (i := 4) nd rfl (Or.inl rfl) (pe_op op_mul (pv 3) (pe_op op_add (pe_op op_add (pv 0) (pe_op op_mul pe_int (pv 1))) pe_int)))
      (pss_one (ps_ret (pe_op op_fdiv (pe_op op_mul (pe_op op_mulH (pv 4) (pe_op op_add (pe_op op_add (pv 3) (pv 0)) pe_int)) (pe_op op_add (pe_op op_mul (pv 3) (pv 3)) pe_int)) (pe_op op_add pe_int (pv 1)))))))), ?_⟩
    refine ⟨_, rfl, _, _, rfl, rfl, ⟨by decide, by decide, by decide⟩, _, _, rfl, rfl, _, rfl, iteB (fun z => ?_) (fun z => ?_)⟩
    · refine ⟨_, rfl, _, rfl, _, _, rfl, rfl, (by show (0 : Int) < 7; decide), _, _, rfl, rfl, ?_⟩
      have a1 : 0 ≤ at_ % 7 := Int.emod_nonneg _ (by decide)
      have a2 : at_ % 7 < 7 := Int.emod_lt_of_pos _ (by decide)
      exact ⟨_, _, rfl, rfl, ⟨by omega, by omega⟩, q _⟩
    · refine ⟨_, rfl, _, rfl, _, _, rfl, rfl, .inl ⟨by decide, by decide⟩, _, _, rfl, rfl, _, _, rfl, rfl, .inr ⟨by decide, by decide⟩, _, rfl, _, _, rfl, rfl, _, _, rfl, rfl, (by show (0 : Int) < 2147483647; decide), ?_⟩
      dsimp only
      generalize hbl : ((ce + 977 * at_) * 48271 + wh) % 2147483647 = bl
      have b1 : 0 ≤ bl := by rw [← hbl]; exact Int.emod_nonneg _ (by decide)
      have b2 : bl < 2147483647 := by rw [← hbl]; exact Int.emod_lt_of_pos _ (by decide)
      have bb : Bits bl 31 := Bits.of b1 (by omega)
      refine ⟨_, rfl, _, rfl, _, rfl, _, _, rfl, rfl, .inl ⟨by decide, by decide⟩, _, _, rfl, rfl, _, _, rfl, rfl, _, _, rfl, rfl, .inl ⟨by omega, by omega⟩, ?_⟩
      have c1 : Bits (31 * at_) 40 := Bits.of (by omega) (by omega)
      have c2 : Bits (7 : Int) 10 := Bits.of (by decide) (by decide)
      have c3 : Bits (5 : Int) 10 := Bits.of (by decide) (by decide)
      have m1 : Bits (bl * (ce + 31 * at_ + 7)) 2000040 := bb.mul ((hb.add c1 (k := 2000001) (by omega) (by omega)).add c2 (k := 2000002) (by omega) (by omega)) (by omega)
      have m2 : Bits (bl + ce + 5) 2000002 := ((bb.add hb (k := 2000001) (by omega) (by omega)).add c3 (by omega) (by omega))
      have m3 : 0 ≤ bl * bl := Int.mul_nonneg b1 b1
      have m4 : bl * bl ≤ 2147483647 * 2147483647 := Int.mul_le_mul (by omega) (by omega) b1 (by decide)
      refine ⟨_, rfl, _, rfl, _, rfl, _, _, rfl, rfl, _, _, rfl, rfl, _, _, rfl, rfl, huge_mul (a := 2000040) (b := 2000002) m1 m2 (by decide) (by decide) (by decide), _, rfl, _, rfl, _, _, rfl, rfl, .inl ⟨by omega, by omega⟩, _, _, rfl, rfl, _, _, rfl, rfl, .inr ⟨by omega, by omega⟩, _, rfl, _, _, rfl, rfl, ?_⟩
      exact ⟨_, _, rfl, rfl, ⟨by omega, by omega⟩, q _⟩
end
end CH
end

section
set_option Elab.async false
set_option linter.all false
set_option maxRecDepth 100000
set_option maxHeartbeats 4000000
namespace CH
open PySem PySem.Spec PyProof.Rows L2
open GxR (TabB TabG Tabbed)
/-- the dict of the greatest pairs -/
def BestD (H : Hp) (kvs : List (List Key × V)) (ws : List Wd) : Prop := ∀ p o, (bestW ws p o = none ∧ valV kvs (kPO p o) = none) ∨ ∃ x t, bestW ws p o = some x ∧ valV kvs (kPO p o) = some (.ref t) ∧ H t = some (.tup [.int x.c, .int x.h])
theorem lexAt2 (a b c d : Int) : Ob.lexAt (fun j => decide ([a, b].getD j 0 = [c, d].getD j 0)) (fun j => decide ([a, b].getD j 0 ≤ [c, d].getD j 0)) (decide ([a, b].length ≤ [c, d].length)) 0 (min [a, b].length [c, d].length) = decide (a < c ∨ (a = c ∧ b ≤ d)) := by
  show Ob.lexAt (fun j => decide ([a, b].getD j 0 = [c, d].getD j 0)) (fun j => decide ([a, b].getD j 0 ≤ [c, d].getD j 0)) (decide (2 ≤ 2)) 0 2 = _
  rw [Ob.lexAt_succ, Ob.lexAt_succ, Ob.lexAt_zero]
  show (if decide (a = c) = true then (if decide (b = d) = true then decide (2 ≤ 2) else decide (b ≤ d)) else decide (a ≤ c)) = _
  by_cases e : a = c
  · by_cases e2 : b = d
    · simp [e, e2]
    · have e3 : ¬ c < c := Int.lt_irrefl c
      simp [e, e2, e3]
  · simp only [decide_eq_true_eq, if_neg e]
    refine decide_eq_decide.mpr ?_
    omega
section
variable {P : Program} {w : World} {K : PySem.W.Frag} {mg : Str → Option Value} {base : Heap} {c aA cc cm : Addr}
abbrev st_law_answers : Stmt := top 22
abbrev nm_law_answers : List Str := ["_law_words_here", "_law_found", "_law_best", "_law_count", "_law_hand", "_law_person", "_law_hour", "_law_word"]
theorem sc_law_answers : FnScope nm_law_answers ["_law_words_here"] (defScope st_law_answers) := C8.fnScope_by (by decide +kernel)
def sp_law_answers (K : PySem.W.Frag) : Sp := fun vs H Q _ => ∃ (l : Addr) (ws : List Wd), vs = [.ref l] ∧ WsAt K H l ws ∧ ws.length ≤ 200 ∧ (∀ x ∈ ws, x.ok) ∧
  ∀ (H' : Hp) (d : Addr) (kvs : List (List Key × V)), Kx H H' → H d = none → H' d = some (.dT kvs) → AnsD kvs (ansW ws) → Q (.ref d) H'
theorem ok_law_answers (D : DefT K mg "_law_answers" st_law_answers c) : C8.Cal P w K mg base 1 "_law_answers" (sp_law_answers K) [] := by
  refine cal_of D sc_law_answers (fun _ _ _ _ _ _ us hl => match us, hl with | [_], _ => rfl) (fun vs H Q E h => ?_) (fun f A outer s H vs Q E hr h => ?_)
  · obtain ⟨l, ws, rfl, _⟩ := h
    rfl
  · obtain ⟨l, ws, rfl, ⟨ts, hl, hw⟩, h200, hok, q⟩ := h
    have nd := sc_law_answers.nd
    have hu := hu_of hr
    have len := paired_len hw
    refine ⟨_, (pss_cons (ps_par (i := 1) (j := 2) (by rfl) nd rfl rfl (by decide) rfl rfl (pa_cons pe_dnewT (pa_cons pe_dnewT pa_nil)) (by rfl))
      (pss_cons (ps_for PassesOwn.never rfl (pi_list (pv 0)) (pg_tup (by rfl) (pgs_cons (pg_name (i := 3) nd rfl (Or.inl rfl)) (pgs_cons (pg_name (i := 4) nd rfl (Or.inl rfl)) (pgs_cons (pg_name (i := 5) nd rfl (Or.inl rfl)) (pgs_cons (pg_name (i := 6) nd rfl (Or.inl rfl)) (pgs_cons (pg_name (i := 7) nd rfl (Or.inl rfl)) pgs_nil)))))) (pss_one (ps_if (pt_cmpR (op_leT hr.units0) (pe_dget2 hu (pv 2) (pe_tup (pa_cons (pv 5) (pa_cons (pv 6) pa_nil))) (pe_tup (pa_cons pe_int (pa_cons pe_int pa_nil))) ⟨rfl, rfl, rfl, rfl⟩) (pe_tup (pa_cons (pv 3) (pa_cons (pv 4) pa_nil))) (nomark _)) (pss_cons (ps_dput hu (pv 2) (pe_tup (pa_cons (pv 5) (pa_cons (pv 6) pa_nil))) (pe_tup (pa_cons (pv 3) (pa_cons (pv 4) pa_nil))) rfl)
      (pss_one (ps_dput hu (pv 1) (pe_tup (pa_cons (pv 5) (pa_cons (pv 6) pa_nil))) (pv 7) rfl))) pss_nil)))
      (pss_one (ps_ret (pv 1))))), ?_⟩
    intro dF nF dB nB
    have kF : Kx H (upd H dF (.dT [])) := Kx.new nF
    have kB : Kx (upd H dF (.dT [])) (upd (upd H dF (.dT [])) dB (.dT [])) := Kx.new nB
    have nFB : dF ≠ dB := ne_of_none upd_same nB
    have nB0 : H dB = none := kF.f _ nB
    refine ⟨_, _, rfl, ?_⟩
    refine ⟨_, rfl, l, rfl, ⟨_, (kF.trans kB).l hl⟩, for_list (K := K) (a := l) (xs := ts.map V.ref) (fun i σ H2 => ∃ (kvF kvB : List (List Key × V)) (v3 v4 v5 v6 v7 : Option V), σ = [some (.ref l), some (.ref dF), some (.ref dB), v3, v4, v5, v6, v7] ∧ Kx H H2 ∧
        H2 dF = some (.dT kvF) ∧ H2 dB = some (.dT kvB) ∧ AnsD kvF (ansW (ws.take i)) ∧ BestD H2 kvB (ws.take i) ∧ kvF.length ≤ i ∧ kvB.length ≤ i)
      ⟨[], [], none, none, none, none, none, rfl, kF.trans kB, by rw [upd_ne nFB, upd_same], upd_same, fun p o => rfl, fun p o => .inl ⟨rfl, rfl⟩, Nat.le_refl _, Nat.le_refl _⟩ (fun i σ H2 _ ⟨_, _, _, _, _, _, _, _, k2, _⟩ => k2.l hl) ?_ ?_⟩
    · rintro i y σ H2 hi ⟨kvF, kvB, v3, v4, v5, v6, v7, rfl, k2, hF, hB, aF, aB, lF, lB⟩
      obtain ⟨t, ht, rfl⟩ : ∃ t, ts[i]? = some t ∧ V.ref t = y := by
        rw [List.getElem?_map] at hi
        exact Option.map_eq_some_iff.mp hi
      obtain ⟨x, hx, hsx⟩ := paired_at hw ht
      have hxo := hok x (List.mem_of_getElem? hx)
      have hi2 : i < ts.length := (List.getElem?_eq_some_iff.mp ht).1
      have e1 : ws.take (i + 1) = ws.take i ++ [x] := by rw [List.take_add_one, hx] <;> rfl
      refine ⟨t, _, rfl, k2.t hsx, rfl, _, _, rfl, _, _, rfl, _, _, rfl, _, _, rfl, _, _, rfl, rfl, ?_⟩
      -- best.get((p, o), (0, 0)) <= (c, h)
      refine ⟨_, rfl, dB, rfl, .inr ⟨_, .inl hB⟩, _, rfl, _, rfl, (by show 2 ≤ sizeLine; decide), fun k nk => ?_⟩
      have k3 : Kx H2 (upd H2 k (.tup [.int x.p, .int x.o])) := Kx.new nk
      refine ⟨(by show 2 ≤ sizeLine; decide), fun z nz => ?_⟩
      have k4 : Kx (upd H2 k (.tup [.int x.p, .int x.o])) (upd (upd H2 k (.tup [.int x.p, .int x.o])) z (.tup [.int 0, .int 0])) := Kx.new nz
      have k24 := k3.trans k4
      refine ⟨_, DGet.t (k := kPO x.p x.o) (k24.dt hB) (k4.tup upd_same), _, rfl, _, rfl, (by show 2 ≤ sizeLine; decide), fun y ny => ?_⟩
      generalize hH4 : upd (upd H2 k (.tup [.int x.p, .int x.o])) z (.tup [.int 0, .int 0]) = H4 at ny k4 k24 ⊢
      have hz4 : H4 z = some (.tup [.int 0, .int 0]) := by rw [← hH4, upd_same]
      have k5 : Kx H4 (upd H4 y (.tup [.int x.c, .int x.h])) := Kx.new ny
      have hy5 : (upd H4 y (.tup [.int x.c, .int x.h])) y = some (.tup [.int x.c, .int x.h]) := upd_same
      generalize hH5 : upd H4 y (.tup [.int x.c, .int x.h]) = H5 at k5 hy5 ⊢
      have k25 := k24.trans k5
      have bst : ∀ p o, bestW (ws.take (i + 1)) p o = if x.p = p ∧ x.o = o ∧ pleO (bestW (ws.take i) p o) x then some x else bestW (ws.take i) p o := fun p o => by
        rw [e1, bestW_snoc]
      -- the test's answer
      have ans : ∃ (a b : Addr) (ns ms : List Int), (valV kvB (kPO x.p x.o)).getD (.ref z) = .ref a ∧ V.ref y = .ref b ∧ SqT K H5 a (ns.map V.int) ∧ SqT K H5 b (ms.map V.int) ∧
          Ob.lexAt (fun j => decide (ns.getD j 0 = ms.getD j 0)) (fun j => decide (ns.getD j 0 ≤ ms.getD j 0)) (decide (ns.length ≤ ms.length)) 0 (min ns.length ms.length) = decide (pleO (bestW (ws.take i) x.p x.o) x) := by
        rcases aB x.p x.o with ⟨b0, v0⟩ | ⟨x0, t0, b0, v0, h0⟩
        · refine ⟨z, y, [0, 0], [x.c, x.h], by rw [v0] <;> rfl, rfl, st_of (k5.tup hz4), st_of hy5, ?_⟩
          obtain ⟨o1, _, o3, _⟩ := hxo
          rw [lexAt2, b0]
          refine decide_eq_decide.mpr ⟨fun _ => trivial, fun _ => ?_⟩
          omega
        · refine ⟨t0, y, [x0.c, x0.h], [x.c, x.h], by rw [v0] <;> rfl, rfl, st_of (k25.tup h0), st_of hy5, ?_⟩
          rw [lexAt2, b0]
          exact decide_eq_decide.mpr Iff.rfl
      obtain ⟨a', b', ns, ms, g1, g2, g3, g4, g5⟩ := ans
      refine ⟨a', b', ns, ms, g1, g2, g3, g4, _, rfl, ?_⟩
      rw [g5]
      refine ite2 (fun hp => ?_) (fun hp => ?_)
      · -- stored
        have hp := of_decide_eq_true hp
        refine ⟨_, rfl, _, rfl, (by show 2 ≤ sizeLine; decide), fun t2 nt2 => ?_⟩
        have k6 : Kx H5 (upd H5 t2 (.tup [.int x.c, .int x.h])) := Kx.new nt2
        refine ⟨_, rfl, _, rfl, _, rfl, (by show 2 ≤ sizeLine; decide), fun q2 nq2 => ?_⟩
        have ht2 : (upd H5 t2 (.tup [.int x.c, .int x.h])) t2 = some (.tup [.int x.c, .int x.h]) := upd_same
        generalize hH6 : upd H5 t2 (.tup [.int x.c, .int x.h]) = H6 at k6 ht2 nq2 ⊢
        have k7 : Kx H6 (upd H6 q2 (.tup [.int x.p, .int x.o])) := Kx.new nq2
        have hq2 : (upd H6 q2 (.tup [.int x.p, .int x.o])) q2 = some (.tup [.int x.p, .int x.o]) := upd_same
        generalize hH7 : upd H6 q2 (.tup [.int x.p, .int x.o]) = H7 at k7 hq2 ⊢
        have k27 := (k25.trans k6).trans k7
        have hB7 := k27.dt hB
        have hF7 := k27.dt hF
        refine ⟨dB, _, rfl, DPut.t (k := kPO x.p x.o) hB7 hq2 (lt80 (by omega)), ?_⟩
        refine ⟨_, rfl, _, rfl, _, rfl, _, rfl, (by show 2 ≤ sizeLine; decide), fun q3 nq3 => ?_⟩
        have neFB : dF ≠ dB := nFB
        have hF8 : (upd H7 dB (.dT (putK kvB (kPO x.p x.o) (.ref t2)))) dF = some (.dT kvF) := by rw [upd_ne neFB]; exact hF7
        have hB8 : (upd H7 dB (.dT (putK kvB (kPO x.p x.o) (.ref t2)))) dB = some (.dT (putK kvB (kPO x.p x.o) (.ref t2))) := upd_same
        have k08 : Kx H (upd H7 dB (.dT (putK kvB (kPO x.p x.o) (.ref t2)))) := (k2.trans k27).mut nB0
        have tup8 : ∀ b xs, H7 b = some (.tup xs) → (upd H7 dB (.dT (putK kvB (kPO x.p x.o) (.ref t2)))) b = some (.tup xs) := fun b xs e => by
          rw [upd_ne (fun z => by rw [z, hB7] at e; cases e)]
          exact e
        generalize hH8 : upd H7 dB (.dT (putK kvB (kPO x.p x.o) (.ref t2))) = H8 at hF8 hB8 k08 tup8 nq3 ⊢
        have k9 : Kx H8 (upd H8 q3 (.tup [.int x.p, .int x.o])) := Kx.new nq3
        have hq3 : (upd H8 q3 (.tup [.int x.p, .int x.o])) q3 = some (.tup [.int x.p, .int x.o]) := upd_same
        have tup9 : ∀ b xs, H8 b = some (.tup xs) → (upd H8 q3 (.tup [.int x.p, .int x.o])) b = some (.tup xs) := fun b xs e => k9.tup e
        have hF9 := k9.dt hF8
        have hB9 := k9.dt hB8
        generalize hH9 : upd H8 q3 (.tup [.int x.p, .int x.o]) = H9 at k9 hq3 tup9 hF9 hB9 ⊢
        refine ⟨dF, _, rfl, DPut.t (k := kPO x.p x.o) hF9 hq3 (lt80 (by omega)), ?_⟩
        refine ⟨putK kvF (kPO x.p x.o) (.str x.a), putK kvB (kPO x.p x.o) (.ref t2), _, _, _, _, _, rfl, (k08.trans k9).mut nF, upd_same, by rw [upd_ne neFB.symm]; exact hB9, fun p o => ?_, fun p o => ?_, ?_, ?_⟩
        · unfold ansW
          rw [valV_put, bst]
          by_cases e : x.p = p ∧ x.o = o
          · obtain ⟨rfl, rfl⟩ := e
            rw [if_pos rfl, if_pos ⟨rfl, rfl, hp⟩] <;> rfl
          · rw [if_neg (fun z => e ⟨(kPO_inj.mp z).1.symm, (kPO_inj.mp z).2.symm⟩), if_neg (fun z => e ⟨z.1, z.2.1⟩)]
            exact aF p o
        · rw [valV_put, bst]
          by_cases e : x.p = p ∧ x.o = o
          · obtain ⟨rfl, rfl⟩ := e
            rw [if_pos rfl, if_pos ⟨rfl, rfl, hp⟩]
            refine .inr ⟨x, t2, rfl, rfl, ?_⟩
            rw [upd_ne (fun z => by rw [z] at ht2; have := tup9 _ _ (tup8 _ _ (k7.tup ht2)); rw [hF9] at this; cases this)]
            exact tup9 _ _ (tup8 _ _ (k7.tup ht2))
          · rw [if_neg (fun z => e ⟨(kPO_inj.mp z).1.symm, (kPO_inj.mp z).2.symm⟩), if_neg (fun z => e ⟨z.1, z.2.1⟩)]
            rcases aB p o with ⟨b0, v0⟩ | ⟨x0, t0, b0, v0, h0⟩
            · exact .inl ⟨b0, v0⟩
            · have h9 := tup9 _ _ (tup8 _ _ (k27.tup h0))
              refine .inr ⟨x0, t0, b0, v0, ?_⟩
              rw [upd_ne (fun z => by rw [z, hF9] at h9; cases h9)]
              exact h9
        · have := length_putK kvF (kPO x.p x.o) (.str x.a)
          omega
        · have := length_putK kvB (kPO x.p x.o) (.ref t2)
          omega
      · -- not stored
        have hp : ¬ pleO (bestW (ws.take i) x.p x.o) x := fun z => hp (decide_eq_true z)
        have same : bestW (ws.take (i + 1)) = bestW (ws.take i) := by
          funext p o
          rw [bst]
          exact if_neg fun z => hp (by obtain ⟨rfl, rfl, z⟩ := z; exact z)
        refine ⟨kvF, kvB, _, _, _, _, _, rfl, k2.trans k25, k25.dt hF, k25.dt hB, fun p o => ?_, fun p o => ?_, by omega, by omega⟩
        · unfold ansW
          rw [same]
          exact aF p o
        · rw [same]
          rcases aB p o with z | ⟨x0, t0, b0, v0, h0⟩
          · exact .inl z
          · exact .inr ⟨x0, t0, b0, v0, k25.tup h0⟩
    · rintro σ H2 ⟨kvF, kvB, v3, v4, v5, v6, v7, rfl, k2, hF, hB, aF, aB, lF, lB⟩
      rw [List.length_map, len, List.take_length] at aF
      exact ⟨_, rfl, q H2 dF kvF k2 nF hF aF⟩
end
end CH
end

section
set_option Elab.async false
set_option linter.all false
set_option maxRecDepth 100000
set_option maxHeartbeats 4000000
namespace CH
open PySem PySem.Spec PyProof.Rows L2
open GxR (TabB TabG Tabbed)
section
variable {P : Program} {w : World} {K : PySem.W.Frag} {mg : Str → Option Value} {base : Heap} {c aA cc cm : Addr}
abbrev st_law_hours : Stmt := top 24
abbrev nm_law_hours : List Str := ["_law_answers_here", "_law_meeting_here", "_law_good", "_law_people", "_law_enough", "_law_needed", "_law_found", "_law_hour", "_law_come", "_law_one"]
theorem sc_law_hours : FnScope nm_law_hours ["_law_answers_here", "_law_meeting_here", "_law_good"] (defScope st_law_hours) := C8.fnScope_by (by decide +kernel)
def sp_law_hours (K : PySem.W.Frag) : Sp := fun vs H Q _ => ∃ (d a g : Addr) (m : Mt) (kvs : List (List Key × V)) (f : Int → Int → Option Str) (cs : List Str), vs = [.ref d, .ref a, .ref g] ∧ MAt K H a m ∧ m.ok ∧ H d = some (.dT kvs) ∧ AnsD kvs f ∧
  SqT K H g (cs.map V.str) ∧ ∀ (H' : Hp) (r : Addr), Kx H H' → H r = none → H' r = some (.lst ((hoursL m cs fun x o => (f x o).getD "no").map V.int)) → Q (.ref r) H'
theorem ok_law_hours (D : DefT K mg "_law_hours" st_law_hours c) (T : Tx K mg aA) : C8.Cal P w K mg base 1 "_law_hours" (sp_law_hours K) [] := by
  refine cal_of D sc_law_hours (fun _ _ _ _ _ _ us hl => match us, hl with | [_, _, _], _ => rfl) (fun vs H Q E h => ?_) (fun fa A outer s H vs Q E hr h => ?_)
  · obtain ⟨d, a, g, m, kvs, f, cs, rfl, _⟩ := h
    rfl
  · obtain ⟨d, a, g, m, kvs, f, cs, rfl, ⟨p, n, ha, hp, hn⟩, mok, hd, hf, hg, q⟩ := h
    have nd := sc_law_hours.nd
    have hu := hu_of hr
    have h8 := rise_len8 mok.p
    have h8n := rise_len8 mok.n
    refine ⟨_, (pss_cons (ps_asg (pv 1) (pg_tup (by rfl) (pgs_cons (pg_name (i := 3) nd rfl (Or.inl rfl)) (pgs_cons (pg_name (i := 4) nd rfl (Or.inl rfl)) (pgs_cons (pg_name (i := 5) nd rfl (Or.inl rfl)) pgs_nil)))))
      (pss_cons (ps_set (i := 6) nd rfl (Or.inl rfl) (pe_lst pa_nil))
      (pss_cons (ps_for PassesOwn.never rfl (pi_range1 (by rfl) T.z_range (pa_cons pe_int pa_nil)) (pg_name (i := 7) nd rfl (Or.inr rfl)) (pss_cons (ps_set (i := 8) nd rfl (Or.inr rfl) (pe_lc (own := [("_law_one", 9)]) (g := gName 9) (by rfl) nd (pi_tup (pv 3)) (blkOk_by (own := [("_law_one", 9)]) (N := nm_law_hours) (sc := defScope st_law_hours) (by decide +kernel)) (fun _ _ _ _ _ => pg_name (i := 9) nd rfl (Or.inl rfl)) (fun _ _ _ _ _ => pts_one (pt_cmpR (show OpR _ (compareOp .In) (rIn K false) from op_in_seq) (pe_dget2 hu (pv 0) (pe_tup (pa_cons (pv 9) (pa_cons (pv 7) pa_nil))) pe_str ⟨rfl, rfl, rfl, rfl⟩) (pv 2) (by rfl))) (fun _ _ _ _ _ => (pv 9))))
      (pss_one (ps_if (PW.pt (pw_and (pt_cmpR op_ge (pe_callB call_len_seq (by rfl) T.z_len PySem.boot_len (pa_cons (pv 8) pa_nil)) (pv 4) (nomark _)) (pw_and1 (pt_val (pe_callB (cr_all rfl) (by rfl) T.z_all (by decide +kernel) (pa_cons (pe_lc (own := [("_law_one", 9)]) (g := gName 9) (tt := tYes) (by rfl) nd (pi_tup (pv 5)) (blkOk_by (own := [("_law_one", 9)]) (N := nm_law_hours) (sc := defScope st_law_hours) (by decide +kernel)) (fun _ _ _ _ _ => pg_name (i := 9) nd rfl (Or.inl rfl)) (fun _ _ _ _ _ => pts_nil) (fun _ _ _ _ _ => (pe_cmpR (show OpR _ (compareOp .In) (rIn K false) from op_in_seq) (pv 9) (pv 8) (by rfl)))) pa_nil)))))) (pss_one (ps_expr (pe_bm PySem.F.plainAttrs_list PySem.F.slot_list_append PySem.F.type_list_append mt_append (pv 6) (pa_cons (pv 7) pa_nil)))) pss_nil))))
      (pss_one (ps_ret (pv 6)))))), ?_⟩
    refine ⟨_, rfl, a, _, rfl, ha, rfl, _, _, rfl, _, _, rfl, _, _, rfl, rfl, ?_⟩
    refine ⟨Nat.zero_le _, fun r nr => ?_⟩
    have k0 : Kx H (upd H r (.lst [])) := Kx.new nr
    refine ⟨12, rfl, by decide, by decide, for_range (lo := 0) (n := 12) (fun i σ H2 => ∃ (v7 v8 v9 : Option V), σ = [some (.ref d), some (.ref a), some (.ref g), some (.ref p), some (.int m.e), some (.ref n), some (.ref r), v7, v8, v9] ∧ Kx H H2 ∧
        H2 r = some (.lst (((((List.range 12).take i).filter fun o => canB m cs fun x => (f x (Int.ofNat o)).getD "no").map Int.ofNat).map V.int)))
      ⟨none, none, none, rfl, k0, upd_same⟩ ?_ ?_⟩
    · rintro i σ H2 hi ⟨v7, v8, v9, rfl, k2, hr2⟩
      have eo : (0 : Int) + (i : Int) = Int.ofNat i := Int.zero_add _
      -- come
      refine ⟨_, rfl, p, rfl, ⟨_, k2.t hp⟩, fun D nD => ?_⟩
      have k3 : Kx H2 (upd H2 D (.lst [])) := Kx.new nD
      refine lc_tup (K := K) (a := p) (xs := m.ps.map V.int) (fun j H3 => Kx H2 H3 ∧ H3 D = some (.lst ((comeL (m.ps.take j) cs fun x => (f x (0 + (i : Int))).getD "no").map V.int)))
        ⟨k3, upd_same⟩ (fun j H3 _ h => h.1.t (k2.t hp)) ?_ ?_
      · rintro j y H3 hj ⟨k4, hD3⟩
        obtain ⟨x, hx, rfl⟩ : ∃ x, m.ps[j]? = some x ∧ V.int x = y := by
          rw [List.getElem?_map] at hj
          exact Option.map_eq_some_iff.mp hj
        have e1 : m.ps.take (j + 1) = m.ps.take j ++ [x] := by rw [List.take_add_one, hx] <;> rfl
        refine ⟨rfl, _, rfl, d, rfl, .inr ⟨_, .inl ((k2.trans k4).dt hd)⟩, _, rfl, _, rfl, (by show 2 ≤ sizeLine; decide), fun k nk => ?_⟩
        have k5 : Kx H3 (upd H3 k (.tup [.int x, .int (0 + (i : Int))])) := Kx.new nk
        refine ⟨_, DGet.t (k := kPO x (0 + (i : Int))) (((k2.trans k4).trans k5).dt hd) upd_same, ?_⟩
        rw [hf x (0 + (i : Int))]
        have e2 : ((f x (0 + (i : Int))).map V.str).getD (.str "no") = .str ((f x (0 + (i : Int))).getD "no") := by cases f x (0 + (i : Int)) <;> rfl
        rw [e2]
        refine ⟨_, rfl, g, _, rfl, .inr (((k2.trans k4).trans k5).t hg), rfl, flat_str _, _, rfl, ?_⟩
        rw [if_neg Bool.false_ne_true, inV_str]
        have e3 : (comeL (m.ps.take (j + 1)) cs fun x => (f x (0 + (i : Int))).getD "no") = (comeL (m.ps.take j) cs fun x => (f x (0 + (i : Int))).getD "no") ++ (if decide ((f x (0 + (i : Int))).getD "no" ∈ cs) = true then [x] else []) := by
          rw [e1]
          unfold comeL
          rw [filter_snoc]
        have hD4 := k5.lst hD3
        refine iteB (fun z => ?_) (fun z => ?_)
        · refine ⟨_, rfl, _, hD4, ?_, (k4.trans k5).mut nD, ?_⟩
          · rw [List.length_map]
            refine lt80 (Nat.lt_of_le_of_lt (List.length_filter_le _ _) ?_)
            rw [List.length_take]
            omega
          · rw [upd_same, e3, if_pos z, List.map_append] <;> rfl
        · refine ⟨k4.trans k5, ?_⟩
          rw [e3, z, if_neg Bool.false_ne_true, List.append_nil]
          exact hD4
      · rintro H3 ⟨k4, hD3⟩
        rw [List.length_map, List.take_length, eo] at hD3
        generalize hL : (comeL m.ps cs fun x => (f x (Int.ofNat i)).getD "no") = L at hD3
        have hcan : (canB m cs fun x => (f x (Int.ofNat i)).getD "no") = (decide (m.e ≤ (L.length : Int)) && m.nds.all fun x => decide (x ∈ L)) := by
          unfold canB
          rw [hL]
        have k24 := k2.trans k4
        have hr3 := k4.lst hr2
        have ernx := range_take (n := 12) hi
        refine ⟨_, rfl, D, _, rfl, .inl (sq_of hD3), _, rfl, _, _, rfl, rfl, _, rfl, ?_⟩
        rw [List.length_map]
        refine iteB (fun z => ?_) (fun z => ?_)
        · have z' : m.e ≤ (L.length : Int) := of_decide_eq_true z
          -- all needed
          refine ⟨_, rfl, n, rfl, ⟨_, k24.t hn⟩, fun D2 nD2 => ?_⟩
          have k5 : Kx H3 (upd H3 D2 (.lst [])) := Kx.new nD2
          refine lc_tup (K := K) (a := n) (xs := m.nds.map V.int) (fun j H4 => Kx H3 H4 ∧ H4 D2 = some (.lst (((m.nds.take j).map fun x => decide (x ∈ L)).map V.bl)))
            ⟨k5, upd_same⟩ (fun j H4 _ h => h.1.t (k24.t hn)) ?_ ?_
          · rintro j y H4 hj ⟨k6, hD4⟩
            obtain ⟨x, hx, rfl⟩ : ∃ x, m.nds[j]? = some x ∧ V.int x = y := by
              rw [List.getElem?_map] at hj
              exact Option.map_eq_some_iff.mp hj
            have e1 : m.nds.take (j + 1) = m.nds.take j ++ [x] := by rw [List.take_add_one, hx] <;> rfl
            refine ⟨rfl, ?_⟩
            refine yesT ?_
            refine ⟨_, rfl, _, rfl, D, _, rfl, .inl (sq_of (k6.lst hD3)), rfl, flat_int _, ?_⟩
            rw [if_neg Bool.false_ne_true, inV_int]
            refine ⟨_, hD4, ?_, k6.mut nD2, ?_⟩
            · rw [List.length_map, List.length_map, List.length_take]
              exact lt80 (by omega)
            · rw [upd_same, e1, List.map_append, List.map_append] <;> rfl
          · rintro H4 ⟨k6, hD4⟩
            rw [List.length_map, List.take_length] at hD4
            refine ⟨D2, _, rfl, sq_of hD4, _, rfl, ?_⟩
            have e5 : ((m.nds.map fun x => decide (x ∈ L)).all id) = canB m cs fun x => (f x (Int.ofNat i)).getD "no" := by
              rw [hcan, decide_eq_true z', Bool.true_and, List.all_map]
              rfl
            rw [e5]
            have hr4 := k6.lst hr3
            refine iteB (fun y => ?_) (fun y => ?_)
            · refine ⟨_, rfl, .inl ⟨rfl, _, sq_of hr4⟩, _, rfl, r, _, _, rfl, rfl, hr4, ?_, _, _, _, rfl, (k24.trans k6).mut nr, ?_⟩
              · rw [List.length_map, List.length_map]
                refine lt80 (Nat.lt_of_le_of_lt (List.length_filter_le _ _) ?_)
                rw [List.length_take]
                omega
              · rw [upd_same, ernx, filter_snoc, if_pos y, List.map_append, List.map_append, eo] <;> rfl
            · refine ⟨_, _, _, rfl, k24.trans k6, ?_⟩
              rw [ernx, filter_snoc, if_neg (by rw [y]; decide), List.append_nil]
              exact hr4
        · have z' : ¬ m.e ≤ (L.length : Int) := of_decide_eq_false z
          have y : (canB m cs fun x => (f x (Int.ofNat i)).getD "no") = false := by
            rw [hcan, decide_eq_false z', Bool.false_and]
          refine ⟨_, _, _, rfl, k24, ?_⟩
          rw [ernx, filter_snoc, if_neg (by rw [y]; decide), List.append_nil]
          exact hr3
    · rintro σ H2 ⟨v7, v8, v9, rfl, k2, hr2⟩
      exact ⟨_, rfl, q H2 r k2 nr hr2⟩
abbrev st_law_meeting : Stmt := top 23
abbrev nm_law_meeting : List Str := ["_law_number_here", "_law_people", "_law_one", "_law_far", "_law_needed"]
theorem sc_law_meeting : FnScope nm_law_meeting ["_law_number_here"] (defScope st_law_meeting) := C8.fnScope_by (by decide +kernel)
def sp_law_meeting (K : PySem.W.Frag) : Sp := fun vs H Q _ => ∃ (n : Int), vs = [.int n] ∧ 0 ≤ n ∧ ∀ (H' : Hp) (a : Addr) (m : Mt), Kx H H' → MAt K H' a m → m.ok → Q (.ref a) H'
theorem rise_filter (p : Nat → Bool) : ∀ (k : Nat) (b : Int) (j : Nat), b + 1 ≤ (j : Int) → j + k ≤ 8 → Rise b (((List.range' j k).filter p).map Int.ofNat)
  | 0, b, j, _, _ => trivial
  | k + 1, b, j, h1, h2 => by
    rw [List.range'_succ]
    by_cases hp : p j = true
    · rw [List.filter_cons_of_pos hp, List.map_cons]
      refine ⟨h1, by show (j : Int) ≤ 7; omega, rise_filter p k (Int.ofNat j) (j + 1) ?_ (by omega)⟩
      show (j : Int) + 1 ≤ ((j + 1 : Nat) : Int)
      omega
    · rw [List.filter_cons_of_neg hp]
      exact rise_filter p k b (j + 1) (by omega) (by omega)
theorem rise_range (p : Nat → Bool) : Rise (-1) (((List.range 8).filter p).map Int.ofNat) := by
  rw [List.range_eq_range']
  exact rise_filter p 8 (-1) 0 (by decide) (by decide)
theorem rise_sub (p : Int → Bool) : ∀ {b : Int} {ns : List Int}, Rise b ns → Rise b (ns.filter p)
  | _, [], _ => trivial
  | b, n :: ns, h => by
    obtain ⟨h1, h2, h3⟩ := h
    by_cases hp : p n = true
    · rw [List.filter_cons_of_pos hp]
      exact ⟨h1, h2, rise_sub p h3⟩
    · rw [List.filter_cons_of_neg hp]
      have up : ∀ {a b : Int} {l : List Int}, a ≤ b → Rise b l → Rise a l := by
        intro a b l hab hl
        cases l with
        | nil => trivial
        | cons y l => exact ⟨by have := hl.1; omega, hl.2.1, hl.2.2⟩
      exact up (by omega) (rise_sub p h3)
theorem rise_lo : ∀ {b : Int} {ns : List Int}, -1 ≤ b → Rise b ns → ∀ x ∈ ns, 0 ≤ x
  | _, [], _, _, x, hx => absurd hx (by simp)
  | b, n :: ns, hb, h, x, hx => by
    rcases List.mem_cons.mp hx with rfl | hx
    · have := h.1
      omega
    · exact rise_lo (by have := h.1; omega) h.2.2 x hx
theorem tD_sh (ns : List Int) : SeqAt.shaped (.tuple (ns.map PyData.int)) = true := by
  unfold SeqAt.shaped
  simp only [PyData.canLay0, ints_lay, PyData.depth, ints_depth]
  rfl
theorem ok_law_meeting (D : DefT K mg "_law_meeting" st_law_meeting c) (T : Tx K mg aA) : C8.Cal P w K mg base 1 "_law_meeting" (sp_law_meeting K) [] := by
  refine cal_of D sc_law_meeting (fun _ _ _ _ _ _ us hl => match us, hl with | [_], _ => rfl) (fun vs H Q E h => ?_) (fun fa A outer s H vs Q E hr h => ?_)
  · obtain ⟨n, rfl, _⟩ := h
    rfl
  · obtain ⟨n, rfl, h0, q⟩ := h
    have nd := sc_law_meeting.nd
    refine ⟨_, (pss_cons (ps_set (i := 1) nd rfl (Or.inl rfl) (pe_callTy call_tuple_of (by rfl) T.z_tuple (by decide +kernel) (pa_cons (pe_lc (own := [("_law_one", 2)]) (g := gName 2) (by rfl) nd (pi_range1 (by rfl) T.z_range (pa_cons pe_int pa_nil)) (blkOk_by (own := [("_law_one", 2)]) (N := nm_law_meeting) (sc := defScope st_law_meeting) (by decide +kernel)) (fun _ _ _ _ _ => pg_name (i := 2) nd rfl (Or.inl rfl)) (fun _ _ _ _ _ => pts_one (pt_cmpR op_eq (pe_op op_and (pe_op op_shr (pv 0) (pv 2)) pe_int) pe_int (nomark _))) (fun _ _ _ _ _ => (pv 2))) pa_nil)))
      (C8.pss_cut (ps_if (PW.pt (pw_or (pt_cmpR (op_eqD hr.units) (pv 1) (pe_tup pa_nil) (nomark _)) (pw_or1 (pt_cmpR op_eq (pe_op op_mod (pe_op op_fdiv (pv 0) pe_int) pe_int) pe_int (nomark _))))) (pss_one (ps_set (i := 1) nd rfl (Or.inl rfl) (pe_tup (pa_cons (pe_op op_mod (pe_op op_fdiv (pv 0) pe_int) pe_int) pa_nil)))) pss_nil)
      (pss_cons (ps_set (i := 3) nd rfl (Or.inr rfl) (pe_op op_fdiv (pv 0) pe_int))
      (pss_cons (ps_set (i := 4) nd rfl (Or.inl rfl) (pe_callTy call_tuple_of (by rfl) T.z_tuple (by decide +kernel) (pa_cons (pe_lc (own := [("_law_one", 2)]) (g := gName 2) (by rfl) nd (pi_tup (pv 1)) (blkOk_by (own := [("_law_one", 2)]) (N := nm_law_meeting) (sc := defScope st_law_meeting) (by decide +kernel)) (fun _ _ _ _ _ => pg_name (i := 2) nd rfl (Or.inl rfl)) (fun _ _ _ _ _ => pts_one (pt_cmpR op_eq (pe_op op_and (pe_op op_shr (pe_op op_fdiv (pv 3) pe_int) (pe_op op_mul pe_int (pv 2))) pe_int) pe_int (nomark _))) (fun _ _ _ _ _ => (pv 2))) pa_nil)))
      (pss_one (ps_ret (pe_tup (pa_cons (pv 1) (pa_cons (pe_op op_add pe_int (pe_op op_mod (pv 3) (pe_callB call_len_seq (by rfl) T.z_len PySem.boot_len (pa_cons (pv 1) pa_nil)))) (pa_cons (pv 4) pa_nil)))))))))), ?_⟩
    -- people
    refine ⟨8, rfl, by decide, by decide, fun D0 nD => ?_⟩
    have k0 : Kx H (upd H D0 (.lst [])) := Kx.new nD
    refine lc_range (lo := 0) (n := 8) (fun i H1 => Kx H H1 ∧ H1 D0 = some (.lst (((((List.range 8).take i).filter fun o => decide (Builtin.bitAnd (n / 2 ^ o) 1 = 1)).map Int.ofNat).map V.int)))
      ⟨k0, upd_same⟩ ?_ ?_
    · rintro i H1 hi ⟨k1, h1⟩
      have eo : (0 : Int) + (i : Int) = Int.ofNat i := Int.zero_add _
      refine ⟨rfl, _, rfl, _, rfl, _, _, rfl, rfl, (by omega), _, _, rfl, rfl, rfl, _, rfl, ?_⟩
      have e1 := range_take (n := 8) hi
      have e2 : decide (V.int (Builtin.bitAnd (n / 2 ^ ((0 : Int) + (i : Int)).toNat) 1) = V.int 1) = decide (Builtin.bitAnd (n / 2 ^ i) 1 = 1) := by
        rw [eo]
        refine decide_eq_decide.mpr ⟨fun z => V.int.inj z, fun z => ?_⟩
        show V.int (Builtin.bitAnd (n / 2 ^ i) 1) = V.int 1
        rw [z]
      rw [e2]
      refine iteB (fun z => ?_) (fun z => ?_)
      · refine ⟨_, rfl, _, h1, ?_, k1.mut nD, ?_⟩
        · rw [List.length_map, List.length_map]
          refine lt80 (Nat.lt_of_le_of_lt (List.length_filter_le _ _) ?_)
          rw [List.length_take]
          omega
        · rw [upd_same, e1, filter_snoc, if_pos z, List.map_append, List.map_append, eo] <;> rfl
      · refine ⟨k1, ?_⟩
        rw [e1, filter_snoc, if_neg (by rw [z]; decide), List.append_nil]
        exact h1
    · rintro H1 ⟨k1, h1⟩
      have hri := rise_range fun o => decide (Builtin.bitAnd (n / 2 ^ o) 1 = 1)
      rw [show (List.range 8).take 8 = List.range 8 from rfl] at h1
      generalize ((List.range 8).filter fun o => decide (Builtin.bitAnd (n / 2 ^ o) 1 = 1)).map Int.ofNat = L at h1 hri
      refine ⟨D0, _, rfl, .inl ⟨sq_of h1, fun p np => ?_⟩⟩
      have k2 : Kx H1 (upd H1 p (.tup (L.map V.int))) := Kx.new np
      have hp2 : (upd H1 p (.tup (L.map V.int))) p = some (.tup (L.map V.int)) := upd_same
      generalize upd H1 p (.tup (L.map V.int)) = H2 at k2 hp2 ⊢
      refine ⟨fun σ H3 => ∃ (p3 : Addr) (M : List Int), σ = [some (.int n), some (.ref p3), none, none, none] ∧ Kx H H3 ∧ H3 p3 = some (.tup (M.map V.int)) ∧ Rise (-1) M ∧ M ≠ [], ?_, ?_⟩
      · -- people is empty, or the number says so
        refine ⟨_, rfl, by decide, fun z nz => ?_⟩
        have k3 : Kx H2 (upd H2 z (.tup [])) := Kx.new nz
        have k03 := (k1.trans k2).trans k3
        have hp3 := k3.tup hp2
        have hz3 : (upd H2 z (.tup [])) z = some (.tup (([] : List Int).map V.int)) := upd_same
        generalize upd H2 z (.tup []) = H3 at k3 k03 hp3 hz3 ⊢
        refine ⟨.tuple (L.map PyData.int), .tuple (([] : List Int).map PyData.int), .tup (st_of hp3) (ints_dp L), .tup (st_of hz3) (ints_dp []), tD_sh L, tD_sh [], _, rfl, ?_⟩
        rw [show PyData.eqv (.tuple (L.map PyData.int)) (.tuple (([] : List Int).map PyData.int)) = decide (L = []) from isD_eqv L []]
        have small : ∀ p4 : Addr, H3 p4 = none → ∃ (p3 : Addr) (M : List Int), [some (V.int n), some (.ref p4), none, none, none] = [some (V.int n), some (.ref p3), none, none, none] ∧ Kx H (upd H3 p4 (.tup [.int (n / 1280 % 8)])) ∧ (upd H3 p4 (.tup [.int (n / 1280 % 8)])) p3 = some (.tup (M.map V.int)) ∧ Rise (-1) M ∧ M ≠ [] := fun p4 np4 => by
          have b1 : 0 ≤ n / 1280 % 8 := Int.emod_nonneg _ (by decide)
          have b2 : n / 1280 % 8 < 8 := Int.emod_lt_of_pos _ (by decide)
          exact ⟨p4, [n / 1280 % 8], rfl, k03.trans (Kx.new np4), upd_same, ⟨by omega, by omega, trivial⟩, by simp⟩
        refine iteB (fun z => ?_) (fun z => ?_)
        · refine iteT ?_
          exact ⟨_, rfl, _, _, rfl, rfl, ⟨by decide, by decide⟩, _, _, rfl, rfl, (by show (0 : Int) < 8; decide), (by show 1 ≤ sizeLine; decide), small⟩
        · refine ⟨_, rfl, _, _, rfl, rfl, ⟨by decide, by decide⟩, _, _, rfl, rfl, (by show (0 : Int) < 5; decide), rfl, _, rfl, ite2 (fun _ => ?_) (fun _ => ?_)⟩
          · exact ⟨_, rfl, _, _, rfl, rfl, ⟨by decide, by decide⟩, _, _, rfl, rfl, (by show (0 : Int) < 8; decide), (by show 1 ≤ sizeLine; decide), small⟩
          · exact ⟨p, L, rfl, k03, hp3, hri, of_decide_eq_false z⟩
      · rintro σ H3 ⟨p3, M, rfl, k3, hp3, hM, hne⟩
        refine ⟨_, rfl, _, _, rfl, rfl, ⟨by decide, by decide⟩, ?_⟩
        -- needed
        refine ⟨_, rfl, p3, rfl, ⟨_, st_of hp3⟩, fun D1 nD1 => ?_⟩
        have k4 : Kx H3 (upd H3 D1 (.lst [])) := Kx.new nD1
        have h8 := rise_len8 hM
        refine lc_tup (K := K) (a := p3) (xs := M.map V.int) (fun j H4 => Kx H3 H4 ∧ H4 D1 = some (.lst (((M.take j).filter fun x => decide (Builtin.bitAnd (n / 10240 / 8 / 2 ^ (2 * x).toNat) 3 = 3)).map V.int)))
          ⟨k4, upd_same⟩ (fun j H4 _ h => h.1.t (st_of hp3)) ?_ ?_
        · rintro j y H4 hj ⟨k5, hD⟩
          obtain ⟨x, hx, rfl⟩ : ∃ x, M[j]? = some x ∧ V.int x = y := by
            rw [List.getElem?_map] at hj
            exact Option.map_eq_some_iff.mp hj
          have e1 : M.take (j + 1) = M.take j ++ [x] := by rw [List.take_add_one, hx] <;> rfl
          have x0 : 0 ≤ x := rise_lo (by omega) hM x (List.mem_of_getElem? hx)
          have x7 := (rise_at hM hx).2
          refine ⟨rfl, _, rfl, _, _, rfl, rfl, ⟨by decide, by decide⟩, _, rfl, _, _, rfl, rfl, .inl ⟨by decide, by decide⟩, _, _, rfl, rfl, (by omega), _, _, rfl, rfl, rfl, _, rfl, ?_⟩
          have e2 : decide (V.int (Builtin.bitAnd (n / 10240 / 8 / 2 ^ (2 * x).toNat) 3) = V.int 3) = decide (Builtin.bitAnd (n / 10240 / 8 / 2 ^ (2 * x).toNat) 3 = 3) := by
            refine decide_eq_decide.mpr ⟨fun z => V.int.inj z, fun z => ?_⟩
            show V.int (Builtin.bitAnd (n / 10240 / 8 / 2 ^ (2 * x).toNat) 3) = V.int 3
            rw [z]
          rw [e2]
          refine iteB (fun z => ?_) (fun z => ?_)
          · refine ⟨_, rfl, _, hD, ?_, k5.mut nD1, ?_⟩
            · rw [List.length_map]
              refine lt80 (Nat.lt_of_le_of_lt (List.length_filter_le _ _) ?_)
              rw [List.length_take]
              omega
            · rw [upd_same, e1, filter_snoc, if_pos z, List.map_append] <;> rfl
          · refine ⟨k5, ?_⟩
            rw [e1, filter_snoc, if_neg (by rw [z]; decide), List.append_nil]
            exact hD
        · rintro H4 ⟨k5, hD⟩
          rw [List.length_map, List.take_length] at hD
          refine ⟨D1, _, rfl, .inl ⟨sq_of hD, fun t nt => ?_⟩⟩
          have k6 : Kx H4 (upd H4 t (.tup ((M.filter fun x => decide (Builtin.bitAnd (n / 10240 / 8 / 2 ^ (2 * x).toNat) 3 = 3)).map V.int))) := Kx.new nt
          have ht6 : (upd H4 t (.tup ((M.filter fun x => decide (Builtin.bitAnd (n / 10240 / 8 / 2 ^ (2 * x).toNat) 3 = 3)).map V.int))) t = some (.tup ((M.filter fun x => decide (Builtin.bitAnd (n / 10240 / 8 / 2 ^ (2 * x).toNat) 3 = 3)).map V.int)) := upd_same
          generalize upd H4 t (.tup ((M.filter fun x => decide (Builtin.bitAnd (n / 10240 / 8 / 2 ^ (2 * x).toNat) 3 = 3)).map V.int)) = H6 at k6 ht6 ⊢
          have hp6 := k6.tup (k5.tup hp3)
          have len : 0 < M.length := List.length_pos_iff.mpr hne
          refine ⟨_, rfl, _, rfl, _, rfl, p3, _, rfl, .inr (st_of hp6), ?_⟩
          rw [List.length_map]
          have d1 : 0 ≤ n / 10240 % (M.length : Int) := Int.emod_nonneg _ (by omega)
          have d2 : n / 10240 % (M.length : Int) < (M.length : Int) := Int.emod_lt_of_pos _ (by omega)
          refine ⟨_, _, rfl, rfl, (by omega), _, _, rfl, rfl, _, rfl, (by show 3 ≤ sizeLine; decide), fun r nr => ?_⟩
          have k7 : Kx H6 (upd H6 r (.tup [.ref p3, .int (1 + n / 10240 % (M.length : Int)), .ref t])) := Kx.new nr
          refine q _ r ⟨M, 1 + n / 10240 % (M.length : Int), M.filter fun x => decide (Builtin.bitAnd (n / 10240 / 8 / 2 ^ (2 * x).toNat) 3 = 3)⟩ (((k3.trans k5).trans k6).trans k7) ⟨p3, t, st_of upd_same, st_of (k7.tup hp6), st_of (k7.tup ht6)⟩ ⟨hM, rise_sub _ hM, by show 1 ≤ 1 + n / 10240 % (M.length : Int); omega, by show 1 + n / 10240 % (M.length : Int) ≤ (M.length : Int); omega, fun x hx => (List.mem_filter.mp hx).1⟩
end
end CH
end

section
set_option Elab.async false
set_option linter.all false
set_option maxRecDepth 100000
set_option maxHeartbeats 4000000
namespace CH
open PySem PySem.Spec PyProof.Rows L2
open GxR (TabB TabG Tabbed)
/-- the entries, one put in -/
def putQ (qs : List (Addr × Wd)) (q : Addr × Wd) : List (Addr × Wd) := if (qs.any fun p => decide (kW p.2 = kW q.2)) = true then qs.map fun p => if kW p.2 = kW q.2 then q else p else qs ++ [q]
theorem putQ_ent (qs : List (Addr × Wd)) (q : Addr × Wd) : putK (qs.map entW) (kW q.2) (.ref q.1) = (putQ qs q).map entW := by
  unfold putK putQ
  have e : ((qs.map entW).any fun kv => decide (kv.1 = kW q.2)) = qs.any fun p => decide (kW p.2 = kW q.2) := by
    rw [List.any_map]
    rfl
  rw [e]
  by_cases h : (qs.any fun p => decide (kW p.2 = kW q.2)) = true
  · rw [if_pos h, if_pos h, List.map_map, List.map_map]
    refine List.map_congr_left fun p _ => ?_
    show (if kW p.2 = kW q.2 then (kW p.2, V.ref q.1) else entW p) = entW (if kW p.2 = kW q.2 then q else p)
    by_cases z : kW p.2 = kW q.2
    · rw [if_pos z, if_pos z, z] <;> rfl
    · rw [if_neg z, if_neg z]
  · rw [if_neg h, if_neg h, List.map_append] <;> rfl
theorem putQ_mem {qs : List (Addr × Wd)} {q p : Addr × Wd} (h : p ∈ putQ qs q) : p = q ∨ p ∈ qs := by
  unfold putQ at h
  split at h
  · obtain ⟨p0, h0, e⟩ := List.mem_map.mp h
    split at e
    · exact .inl e.symm
    · exact .inr (e ▸ h0)
  · rcases List.mem_append.mp h with h | h
    · exact .inr h
    · exact .inl (List.mem_singleton.mp h)
theorem putQ_len (qs : List (Addr × Wd)) (q : Addr × Wd) : (putQ qs q).length ≤ qs.length + 1 := by
  unfold putQ
  split
  · rw [List.length_map]
    omega
  · rw [List.length_append]
    exact Nat.le_refl _
theorem putQ_diff {qs : List (Addr × Wd)} {q : Addr × Wd} (h : qs.Pairwise fun a b => kW a.2 ≠ kW b.2) : (putQ qs q).Pairwise fun a b => kW a.2 ≠ kW b.2 := by
  unfold putQ
  split
  · rw [List.pairwise_map]
    refine h.imp fun {a b} z => ?_
    by_cases e1 : kW a.2 = kW q.2
    · by_cases e2 : kW b.2 = kW q.2
      · exact absurd (e1.trans e2.symm) z
      · rw [if_pos e1, if_neg e2]
        exact fun y => e2 y.symm
    · by_cases e2 : kW b.2 = kW q.2
      · rw [if_neg e1, if_pos e2]
        exact e1
      · rw [if_neg e1, if_neg e2]
        exact z
  · rename_i hn
    refine List.pairwise_append.mpr ⟨h, List.pairwise_singleton _ _, fun a ha b hb => ?_⟩
    rw [List.mem_singleton.mp hb]
    intro z
    exact hn (List.any_eq_true.mpr ⟨a, ha, decide_eq_true z⟩)
theorem Bits.neg {i : Int} {n : Nat} (h : Bits i n) : Bits (-i) n := by
  unfold Bits at h ⊢
  rw [Int.natAbs_neg]
  exact h
theorem bits_sum {n : Nat} : ∀ {ns : List Int}, (∀ z ∈ ns, Bits z n) → Bits ns.sum (n + ns.length)
  | [], _ => by
    show (0 : Int).natAbs < 2 ^ (n + 0)
    exact Nat.pow_pos (by decide)
  | z :: ns, h => by
    have ih := bits_sum fun y hy => h y (List.mem_cons_of_mem _ hy)
    rw [List.sum_cons]
    exact (h z List.mem_cons_self).add ih (by rw [List.length_cons]; omega) (by rw [List.length_cons]; omega)
theorem abs_nn (i : Int) : 0 ≤ (if i < 0 then -i else i) := by split <;> omega
theorem bits_abs {i : Int} {n : Nat} (h : Bits i n) : Bits (if i < 0 then -i else i) n := by
  split
  · exact h.neg
  · exact h
theorem valV_of {qs : List (Addr × Wd)} {q : Addr × Wd} (h : qs.Pairwise fun a b => kW a.2 ≠ kW b.2) (hq : q ∈ qs) : valV (qs.map entW) (kW q.2) = some (.ref q.1) := by
  rcases valV_entW (w := q.2) (qs := qs) with ⟨q', h', e, v⟩ | ⟨n, _⟩
  · have z : q' = q := by
      clear v
      induction qs with
      | nil => exact absurd hq (by simp)
      | cons x qs ih =>
        obtain ⟨h3, h4⟩ := List.pairwise_cons.mp h
        rcases List.mem_cons.mp hq with ea | ea
        · rcases List.mem_cons.mp h' with eb | eb
          · rw [ea, eb]
          · exact absurd (ea ▸ e).symm (h3 q' eb)
        · rcases List.mem_cons.mp h' with eb | eb
          · exact absurd (eb ▸ e) (h3 q ea)
          · exact ih h4 ea eb
    rw [v, z]
  · exact absurd rfl (n q hq)
theorem tat_of {H : Hp} : ∀ {qs : List (Addr × Wd)}, PAt H qs → TAt H (qs.map (·.1)) (qs.map (·.2))
  | [], _ => .nil
  | q :: qs, h => .cons (h q List.mem_cons_self) (tat_of fun p hp => h p (List.mem_cons_of_mem _ hp))
theorem lc_keysT {d : Addr} {o : Obj} {kvs : List (List Key × V)} {g : TG} {tt : TT} {te : TE} {vs : List Nat} {σ : L2.St} {H1 : Hp} {D : Addr} {Qd : Hp → Prop} (Pv : Nat → Hp → Prop) (h0 : Pv 0 (upd H1 D (.lst []))) (hl : ∀ i H, i ≤ kvs.length → Pv i H → H d = some (.frz o (.dT kvs)))
    (hs : ∀ i k v q H, kvs[i]? = some (k, v) → H q = some (.tup (k.map kV)) → Pv i H → g (.ref q) (wipe σ vs) H fun σ2 H2 => wipe σ2 vs = wipe σ vs ∧ tt σ2 H2 fun b H3 =>
      if b = true then te σ2 H3 fun y H4 => ∃ acc, H4 D = some (.lst acc) ∧ acc.length < sizeLine ∧ Pv (i + 1) (upd H4 D (.lst (acc ++ [y]))) else Pv (i + 1) H3) (hd : ∀ H, Pv kvs.length H → Qd H) :
    ∃ W : Nat → Nat → Hp → Prop, (∃ m, W 0 m (upd H1 D (.lst []))) ∧ ∀ i m H, W i m H →
      ((Itkt d o kvs).stop i H ∧ Qd H) ∨ ((Itkt d o kvs).go i H ∧ ∃ Nx : Hp → Prop, (∀ H', Nx H' → ∃ m', m' < m ∧ W (i + 1) m' H') ∧ ∀ x H', (Itkt d o kvs).yld i H x H' → g x (wipe σ vs) H' fun σ2 H2 => wipe σ2 vs = wipe σ vs ∧ tt σ2 H2 fun b H3 =>
        if b = true then te σ2 H3 fun y H4 => ∃ acc, H4 D = some (.lst acc) ∧ acc.length < sizeLine ∧ Nx (upd H4 D (.lst (acc ++ [y]))) else Nx H3) := by
  refine ⟨fun i m H => m = kvs.length - i ∧ i ≤ kvs.length ∧ Pv i H, ⟨kvs.length, by simp, Nat.zero_le _, h0⟩, ?_⟩
  rintro i m H ⟨rfl, hi, p⟩
  have q := hl i H hi p
  by_cases hlt : i < kvs.length
  · refine .inr ⟨⟨q, hlt⟩, Pv (i + 1), fun H' p' => ⟨kvs.length - (i + 1), by omega, rfl, hlt, p'⟩, fun x H' y => ?_⟩
    obtain ⟨e, k, v, b, e1, e2, e3⟩ := y
    subst e
    subst e2
    exact hs i k v b _ e1 e3 p
  · have e : i = kvs.length := by omega
    subst e
    exact .inl ⟨⟨q, Nat.le_refl _⟩, hd _ p⟩
theorem at_two (a b : Int) {i m : Int} (h0 : 0 ≤ i) (h1 : i < 2) (ha : 0 < a) (hb : 0 < b) (hA : a ≤ m) (hB : b ≤ m) : ∃ z, atI [V.int a, V.int b] i = some (.int z) ∧ 0 < z ∧ z ≤ m := by
  obtain ⟨v, hv, hm⟩ := at_small (xs := [V.int a, V.int b]) h0 h1
  rcases List.mem_cons.mp hm with rfl | hm
  · exact ⟨a, hv, ha, hA⟩
  · rcases List.mem_cons.mp hm with rfl | hm
    · exact ⟨b, hv, hb, hB⟩
    · exact (nomatch hm)
section
variable {P : Program} {w : World} {K : PySem.W.Frag} {mg : Str → Option Value} {base : Heap} {c aA cc cm : Addr}
abbrev st_law_words : Stmt := top 21
abbrev nm_law_words : List Str := ["_law_script", "_law_by", "_law_most", "_law_cells", "_law_whole", "_law_found", "_law_kind", "_law_at", "_law_cell", "_law_number_here", "_law_key", "_law_far", "_law_person", "_law_hour"]
theorem sc_law_words : FnScope nm_law_words ["_law_script", "_law_by", "_law_most"] (defScope st_law_words) := C8.fnScope_by (by decide +kernel)
def sp_law_words (K : PySem.W.Frag) : Sp := fun vs H Q _ => ∃ (l : Addr) (ns : List Int) (by_ : Int) (most : Nat), vs = [.ref l, .int by_, .int (most : Int)] ∧ SqL K H l (ns.map V.int) ∧ ns.length ≤ 63 ∧ (∀ z ∈ ns, Bits z 1100000) ∧ 0 ≤ by_ ∧ by_ ≤ 1000 ∧ most ≤ 200 ∧
  ∀ (H' : Hp) (r : Addr) (ts : List Addr) (ws : List Wd), Kx H H' → H r = none → H' r = some (.lst (ts.map V.ref)) → TAt H' ts ws → ws.length ≤ most → (∀ x ∈ ws, x.ok) → Diff ws → Q (.ref r) H'
theorem ok_law_words (D : DefT K mg "_law_words" st_law_words c) (T : Tx K mg aA) (f__law_number : C8.Cal P w K mg base 1 "_law_number" sp_law_number []) : C8.Cal P w K mg base 2 "_law_words" (sp_law_words K) [] := by
  refine cal_of D sc_law_words (fun _ _ _ _ _ _ us hl => match us, hl with | [_, _, _], _ => rfl) (fun vs H Q E h => ?_) (fun fa A outer s H vs Q E hr h => ?_)
  · obtain ⟨l, ns, by_, most, rfl, _⟩ := h
    rfl
  · obtain ⟨l, ns, by_, most, rfl, hl, h63, hbits, hb0, hb1, hm, q⟩ := h
    have nd := sc_law_words.nd
    have hu := hu_of hr
    refine ⟨_, (C8.pss_cut (ps_set (i := 3) nd rfl (Or.inl rfl) (pe_ifExp (pt_cmpR (op_neD hr.units) (pv 0) (pe_lst pa_nil) (nomark _)) (pe_slice sl_list (pv 0) po_none (po_some pe_int)) (pe_lst (pa_cons pe_int pa_nil))))
      (pss_cons (ps_asg (pe_tup (pa_cons (pe_op op_add (pe_callB call_abs (by rfl) T.z_abs (by decide +kernel) (pa_cons (pe_callB (cr_sum rfl) (by rfl) T.z_sum (by decide +kernel) (pa_cons (pv 3) pa_nil)) pa_nil)) (pe_op op_mul pe_int (pv 1))) (pa_cons pe_dnewT pa_nil))) (pg_tup (by rfl) (pgs_cons (pg_name (i := 4) nd rfl (Or.inl rfl)) (pgs_cons (pg_name (i := 5) nd rfl (Or.inr rfl)) pgs_nil))))
      (pss_cons (ps_set (i := 6) nd rfl (Or.inl rfl) (pe_op op_mod (pe_op op_fdiv (pv 4) pe_int) pe_int))
      (pss_cons (ps_for PassesOwn.never rfl (pi_range1 (by rfl) T.z_range (pa_cons (pe_op op_mod (pv 4) (pe_op op_add (pv 2) pe_int)) pa_nil)) (pg_name (i := 7) nd rfl (Or.inl rfl)) (pss_cons (ps_set (i := 8) nd rfl (Or.inl rfl) (pe_op op_add (pe_ix ix_list (pv 3) (pe_op op_mod (pe_op op_add (pv 7) (pv 1)) (pe_callB call_len_seq (by rfl) T.z_len PySem.boot_len (pa_cons (pv 3) pa_nil))) (fun _ _ => rfl)) (pe_op op_fdiv (pv 7) (pe_callB call_len_seq (by rfl) T.z_len PySem.boot_len (pa_cons (pv 3) pa_nil)))))
      (pss_cons (ps_set (i := 9) nd rfl (Or.inl rfl) (pe_op op_fdiv (pe_callB call_abs (by rfl) T.z_abs (by decide +kernel) (pa_cons (C8.pe_c f__law_number hr (by decide) (by rfl) (pa_cons (pv 8) (pa_cons (pe_op op_add (pv 7) (pv 1)) (pa_cons (pv 4) pa_nil)))) pa_nil)) pe_int))
      (pss_cons (ps_set (i := 10) nd rfl (Or.inl rfl) (pe_tup (pa_cons (pe_op op_add pe_int (pe_op op_mod (pv 9) (pe_ix ix_tup (pe_tup (pa_cons pe_int (pa_cons pe_int pa_nil))) (pe_op op_mod (pv 6) pe_int) (fun _ _ => rfl)))) (pa_cons (pe_op op_mod (pe_op op_fdiv (pv 9) pe_int) pe_int) pa_nil))))
      (pss_cons (ps_set (i := 11) nd rfl (Or.inl rfl) (pe_op op_fdiv (pv 9) pe_int))
      (pss_cons (ps_par (i := 12) (j := 13) (by rfl) nd rfl rfl (by decide) rfl rfl (pa_cons (pe_op op_mod (pv 11) (pe_ix ix_tup (pe_tup (pa_cons pe_int (pa_cons pe_int pa_nil))) (pe_op op_fdiv (pv 6) pe_int) (fun _ _ => rfl))) (pa_cons (pe_op op_mod (pe_op op_fdiv (pv 11) pe_int) (pe_ix ix_tup (pe_tup (pa_cons pe_int (pa_cons pe_int pa_nil))) (pe_op op_fdiv (pv 6) pe_int) (fun _ _ => rfl))) pa_nil)) (by rfl))
      (pss_one (ps_dput hu (pv 5) (pv 10) (pe_op op_catT (pv 10) (pe_tup (pa_cons (pv 12) (pa_cons (pv 13) (pa_cons (pe_ix ix_tup (pe_tup (pa_cons pe_str (pa_cons pe_str (pa_cons pe_str (pa_cons pe_str (pa_cons pe_str pa_nil)))))) (pe_op op_mod (pe_op op_fdiv (pv 11) pe_int) pe_int) (fun _ _ => rfl)) pa_nil))))) rfl))))))))
      (pss_one (ps_ret (pe_lock (pe_lc (own := [("_law_key", 10)]) (g := gName 10) (tt := tYes) (by rfl) nd (pi_keys (pv 5)) (blkOk_by (own := [("_law_key", 10)]) (N := nm_law_words) (sc := defScope st_law_words) (by decide +kernel)) (fun _ _ _ _ _ => pg_name (i := 10) nd rfl (Or.inl rfl)) (fun _ _ _ _ _ => pts_nil) (fun _ _ _ _ _ => (pe_dget hu (pv 5) (pv 10) (fun _ _ => rfl))))))))))), ?_⟩
    -- the cells
    refine ⟨fun σ H1 => ∃ (lc : Addr) (cs : List Int), σ = [some (.ref l), some (.int by_), some (.int (most : Int)), some (.ref lc), none, none, none, none, none, none, none, none, none, none] ∧ Kx H H1 ∧ SqL K H1 lc (cs.map V.int) ∧ 0 < cs.length ∧ cs.length ≤ 63 ∧ (∀ z ∈ cs, Bits z 1100000), ?_, ?_⟩
    · refine ⟨_, rfl, Nat.zero_le _, fun z nz => ?_⟩
      have k1 : Kx H (upd H z (.lst [])) := Kx.new nz
      have hz1 : (upd H z (.lst [])) z = some (.lst (([] : List Int).map V.int)) := upd_same
      generalize upd H z (.lst []) = H1 at k1 hz1 ⊢
      refine ⟨isD ns, isD [], isD_dp (k1.l hl), isD_dp (sq_of hz1), isD_sh ns, isD_sh [], _, rfl, ?_⟩
      rw [isD_eqv]
      by_cases e : ns = []
      · rw [decide_eq_true e]
        refine iteF ⟨by show 1 ≤ sizeLine; decide, fun y ny => ?_⟩
        exact ⟨y, [5], rfl, k1.trans (Kx.new ny), sq_of upd_same, by decide, by decide, fun z hz => by rw [List.mem_singleton.mp hz]; exact Bits.of (by decide) (by decide) |>.mono (n := 10) (by decide)⟩
      · rw [decide_eq_false e]
        refine iteT ⟨_, rfl, 63, rfl, l, _, rfl, k1.l hl, fun y ny => ?_⟩
        have ec : cutV (ns.map V.int) none (some 63) = ns.map V.int := by
          unfold cutV
          rw [HT.sIx_none, show HT.sIx (ns.map V.int).length (ns.map V.int).length (some 63) = min 63 (ns.map V.int).length from HT.sIx_nat _ _ 63]
          rw [List.length_map, List.drop_zero, Nat.min_eq_right (by omega), Nat.sub_zero]
          exact List.take_of_length_le (by rw [List.length_map]; exact Nat.le_refl _)
        refine ⟨y, ns, rfl, k1.trans (Kx.new ny), sq_of ?_, List.length_pos_iff.mpr e, h63, hbits⟩
        rw [upd_same, ec]
    · rintro σ H1 ⟨lc, cs, rfl, k1, hc1, hc0, hc63, hcb⟩
      -- whole, found
      refine ⟨_, rfl, lc, cs, rfl, hc1, _, rfl, _, rfl, _, _, rfl, rfl, .inl ⟨by decide, by decide⟩, _, _, rfl, rfl, ?_⟩
      have w0 := abs_nn cs.sum
      have wb := bits_abs (bits_sum hcb)
      dsimp only
      generalize (if cs.sum < 0 then -cs.sum else cs.sum) = ab at w0 wb ⊢
      intro d nd0
      have k2 : Kx H1 (upd H1 d (.dT [])) := Kx.new nd0
      have hd2 : (upd H1 d (.dT [])) d = some (.dT []) := upd_same
      have nd00 : H d = none := k1.f _ nd0
      generalize upd H1 d (.dT []) = H2 at k2 hd2 ⊢
      refine ⟨by show 2 ≤ sizeLine; decide, fun t nt => ?_⟩
      have k3 : Kx H2 (upd H2 t (.tup [.int (ab + 7 * by_), .ref d])) := Kx.new nt
      have ht3 : (upd H2 t (.tup [.int (ab + 7 * by_), .ref d])) t = some (.tup [.int (ab + 7 * by_), .ref d]) := upd_same
      have hd3 := k3.dt hd2
      generalize upd H2 t (.tup [.int (ab + 7 * by_), .ref d]) = H3 at k3 ht3 hd3 ⊢
      refine ⟨t, _, rfl, st_of ht3, rfl, _, _, rfl, _, _, rfl, rfl, ?_⟩
      have wh0 : 0 ≤ ab + 7 * by_ := by omega
      have whb : Bits (ab + 7 * by_) 1200000 := wb.add (show Bits (7 * by_) 20 from Bits.of (by omega) (by omega)) (by omega) (by omega)
      generalize ab + 7 * by_ = wh at wh0 whb
      have k03 := (k1.trans k2).trans k3
      -- kind
      refine ⟨_, rfl, _, _, rfl, rfl, ⟨by decide, by decide⟩, _, _, rfl, rfl, (by show (0 : Int) < 4; decide), ?_⟩
      have kd0 : 0 ≤ wh / 81 % 4 := Int.emod_nonneg _ (by decide)
      have kd1 : wh / 81 % 4 < 4 := Int.emod_lt_of_pos _ (by decide)
      dsimp (config := { proj := false, failIfUnchanged := false }) only
      generalize wh / 81 % 4 = kd at kd0 kd1 ⊢
      -- the loop
      refine ⟨_, rfl, _, rfl, _, _, rfl, rfl, _, _, rfl, rfl, (by omega), ?_⟩
      have n0 : 0 ≤ wh % ((most : Int) + 1) := Int.emod_nonneg _ (by omega)
      have n1 : wh % ((most : Int) + 1) < (most : Int) + 1 := Int.emod_lt_of_pos _ (by omega)
      dsimp (config := { proj := false, failIfUnchanged := false }) only
      generalize wh % ((most : Int) + 1) = nn at n0 n1 ⊢
      refine ⟨nn, rfl, by omega, by omega, for_range (lo := 0) (n := nn.toNat) (fun i σ H4 => ∃ (qs : List (Addr × Wd)) (v7 v8 v9 v10 v11 v12 v13 : Option V), σ = [some (.ref l), some (.int by_), some (.int (most : Int)), some (.ref lc), some (.int wh), some (.ref d), some (.int kd), v7, v8, v9, v10, v11, v12, v13] ∧ Kx H1 H4 ∧
        H4 d = some (.dT (qs.map entW)) ∧ PAt H4 qs ∧ (∀ q ∈ qs, q.2.ok) ∧ (qs.Pairwise fun a b => kW a.2 ≠ kW b.2) ∧ qs.length ≤ i)
        ⟨[], none, none, none, none, none, none, none, rfl, k2.trans k3, hd3, fun _ z => (nomatch z), fun _ z => (nomatch z), List.Pairwise.nil, Nat.le_refl _⟩ ?_ ?_⟩
      · rintro i σ H4 hi ⟨qs, v7, v8, v9, v10, v11, v12, v13, rfl, k4, hd4, hp4, ok4, df4, ln4⟩
        have hlen : (0 : Int) < ((cs.map V.int).length : Int) := by rw [List.length_map]; omega
        have m0 := Int.emod_nonneg (0 + (i : Int) + by_) (show ((cs.map V.int).length : Int) ≠ 0 by omega)
        have m1 := Int.emod_lt_of_pos (0 + (i : Int) + by_) hlen
        obtain ⟨cv, hcv, hcm⟩ := at_small (xs := cs.map V.int) m0 m1
        obtain ⟨ce, hce, rfl⟩ := List.mem_map.mp hcm
        have hbce := hcb ce hce
        have hc4 : SqL K H4 lc (cs.map V.int) := k4.l hc1
        have hcl : (cs.map V.int).length = cs.length := List.length_map _
        -- cell
        refine ⟨_, rfl, _, rfl, _, rfl, _, _, rfl, rfl, _, rfl, lc, _, rfl, .inl hc4, _, _, rfl, rfl, hlen, ?_⟩
        refine ⟨lc, _, _, _, rfl, rfl, hc4, hcv, _, rfl, _, rfl, lc, _, rfl, .inl hc4, _, _, rfl, rfl, ⟨hlen, by omega⟩, _, _, rfl, rfl, ?_⟩
        have q0 : 0 ≤ (0 + (i : Int)) / ((cs.map V.int).length : Int) := Int.ediv_nonneg (by omega) (by omega)
        have q1 : (0 + (i : Int)) / ((cs.map V.int).length : Int) ≤ 200 := Int.le_trans (Int.ediv_le_self _ (by omega)) (by omega)
        have hbc : Bits (ce + (0 + (i : Int)) / ((cs.map V.int).length : Int)) 2000000 := hbce.add (Bits.of (n := 10) q0 (by omega)) (by decide) (by decide)
        dsimp (config := { proj := false, failIfUnchanged := false }) only
        generalize ce + (0 + (i : Int)) / ((cs.map V.int).length : Int) = cell at hbc ⊢
        refine ⟨_, rfl, _, rfl, _, rfl, _, _, rfl, rfl, _, rfl, cell, _, _, rfl, hbc, by omega, by omega, fun r => ⟨_, rfl, _, _, rfl, rfl, ⟨by decide, by decide⟩, ?_⟩⟩
        have x0 : 0 ≤ (if r < 0 then -r else r) / 3 := Int.ediv_nonneg (abs_nn r) (by decide)
        dsimp (config := { proj := false, failIfUnchanged := false }) only
        generalize (if r < 0 then -r else r) / 3 = nh at x0 ⊢
        -- key
        have kk0 : 0 ≤ kd % 2 := Int.emod_nonneg _ (by decide)
        have kk1 : kd % 2 < 2 := Int.emod_lt_of_pos _ (by decide)
        have kq0 : 0 ≤ kd / 2 := Int.ediv_nonneg kd0 (by decide)
        have kq1 : kd / 2 < 2 := by omega
        obtain ⟨z1, hz1, z1a, z1b⟩ := at_two 99 12 kk0 kk1 (by decide) (by decide) (m := 99) (by decide) (by decide)
        refine ⟨_, rfl, (by show 2 ≤ sizeLine; decide), fun t1 nt1 => ?_⟩
        have k5 : Kx H4 (upd H4 t1 (.tup [.int 99, .int 12])) := Kx.new nt1
        refine ⟨_, rfl, _, _, rfl, rfl, (by show (0 : Int) < 2; decide), t1, _, _, _, rfl, rfl, st_of upd_same, hz1, _, _, rfl, rfl, z1a, _, _, rfl, rfl, _, rfl, _, _, rfl, rfl, ⟨by decide, by decide⟩, _, _, rfl, rfl, (by show (0 : Int) < 4; decide), (by show 2 ≤ sizeLine; decide), ?_⟩
        have c0 : 0 ≤ nh % z1 := Int.emod_nonneg _ (by omega)
        have c1 : nh % z1 < z1 := Int.emod_lt_of_pos _ z1a
        have h0 : 0 ≤ nh / 99 % 4 := Int.emod_nonneg _ (by decide)
        have h1 : nh / 99 % 4 < 4 := Int.emod_lt_of_pos _ (by decide)
        dsimp (config := { proj := false, failIfUnchanged := false }) only
        generalize nh % z1 = cc at c0 c1 ⊢
        generalize nh / 99 % 4 = hh at h0 h1 ⊢
        generalize upd H4 t1 (.tup [.int 99, .int 12]) = H5 at k5 ⊢
        intro ky nky
        have k6 : Kx H5 (upd H5 ky (.tup [.int (1 + cc), .int hh])) := Kx.new nky
        have hky : (upd H5 ky (.tup [.int (1 + cc), .int hh])) ky = some (.tup [.int (1 + cc), .int hh]) := upd_same
        generalize upd H5 ky (.tup [.int (1 + cc), .int hh]) = H6 at k6 hky ⊢
        -- far, person, hour
        refine ⟨_, rfl, _, _, rfl, rfl, ⟨by decide, by decide⟩, ?_⟩
        have fr0 : 0 ≤ nh / 396 := Int.ediv_nonneg x0 (by decide)
        dsimp (config := { proj := false, failIfUnchanged := false }) only
        generalize nh / 396 = far at fr0 ⊢
        obtain ⟨z2, hz2, z2a, z2b⟩ := at_two 8 3 kq0 kq1 (by decide) (by decide) (m := 8) (by decide) (by decide)
        obtain ⟨z3, hz3, z3a, z3b⟩ := at_two 12 4 kq0 kq1 (by decide) (by decide) (m := 12) (by decide) (by decide)
        refine ⟨_, rfl, (by show 2 ≤ sizeLine; decide), fun t2 nt2 => ?_⟩
        have k7 : Kx H6 (upd H6 t2 (.tup [.int 8, .int 3])) := Kx.new nt2
        have ht2 : (upd H6 t2 (.tup [.int 8, .int 3])) t2 = some (.tup [.int 8, .int 3]) := upd_same
        generalize upd H6 t2 (.tup [.int 8, .int 3]) = H7 at k7 ht2 ⊢
        refine ⟨_, rfl, _, _, rfl, rfl, ⟨by decide, by decide⟩, t2, _, _, _, rfl, rfl, st_of ht2, hz2, _, _, rfl, rfl, z2a, ?_⟩
        refine ⟨_, rfl, _, _, rfl, rfl, ⟨by decide, by decide⟩, (by show 2 ≤ sizeLine; decide), fun t3 nt3 => ?_⟩
        have k8 : Kx H7 (upd H7 t3 (.tup [.int 12, .int 4])) := Kx.new nt3
        have ht3' : (upd H7 t3 (.tup [.int 12, .int 4])) t3 = some (.tup [.int 12, .int 4]) := upd_same
        generalize upd H7 t3 (.tup [.int 12, .int 4]) = H8 at k8 ht3' ⊢
        refine ⟨_, rfl, _, _, rfl, rfl, ⟨by decide, by decide⟩, t3, _, _, _, rfl, rfl, st_of ht3', hz3, _, _, rfl, rfl, z3a, ?_⟩
        have p0 : 0 ≤ far % z2 := Int.emod_nonneg _ (by omega)
        have p1 : far % z2 < z2 := Int.emod_lt_of_pos _ z2a
        have o0 : 0 ≤ far / 8 % z3 := Int.emod_nonneg _ (by omega)
        have o1 : far / 8 % z3 < z3 := Int.emod_lt_of_pos _ z3a
        dsimp (config := { proj := false, failIfUnchanged := false }) only
        generalize far % z2 = pp at p0 p1 ⊢
        generalize far / 8 % z3 = oo at o0 o1 ⊢
        refine ⟨_, _, rfl, ?_⟩
        -- the word
        have a0 : 0 ≤ far / 96 % 5 := Int.emod_nonneg _ (by decide)
        have a1 : far / 96 % 5 < 5 := Int.emod_lt_of_pos _ (by decide)
        obtain ⟨va, hva, hvm⟩ := at_small (xs := [V.str "yes", V.str "maybe", V.str "no", V.str "yes", V.str "yes"]) a0 a1
        obtain ⟨an, rfl, han⟩ : ∃ an, va = V.str an ∧ an ∈ ansL := by
          simp only [List.mem_cons, List.not_mem_nil, or_false] at hvm
          rcases hvm with rfl | rfl | rfl | rfl | rfl
          · exact ⟨_, rfl, by unfold ansL; exact .head _⟩
          · exact ⟨_, rfl, by unfold ansL; exact .tail _ (.head _)⟩
          · exact ⟨_, rfl, by unfold ansL; exact .tail _ (.tail _ (.head _))⟩
          · exact ⟨_, rfl, by unfold ansL; exact .head _⟩
          · exact ⟨_, rfl, by unfold ansL; exact .head _⟩
        refine ⟨_, rfl, _, rfl, _, rfl, (by show 5 ≤ sizeLine; decide), fun t4 nt4 => ?_⟩
        have k9 : Kx H8 (upd H8 t4 (.tup [.str "yes", .str "maybe", .str "no", .str "yes", .str "yes"])) := Kx.new nt4
        have ht4 : (upd H8 t4 (.tup [.str "yes", .str "maybe", .str "no", .str "yes", .str "yes"])) t4 = some (.tup [.str "yes", .str "maybe", .str "no", .str "yes", .str "yes"]) := upd_same
        generalize upd H8 t4 (.tup [.str "yes", .str "maybe", .str "no", .str "yes", .str "yes"]) = H9 at k9 ht4 ⊢
        refine ⟨_, rfl, _, _, rfl, rfl, ⟨by decide, by decide⟩, _, _, rfl, rfl, (by show (0 : Int) < 5; decide), t4, _, _, _, rfl, rfl, st_of ht4, hva, (by show 3 ≤ sizeLine; decide), fun t5 nt5 => ?_⟩
        have k10 : Kx H9 (upd H9 t5 (.tup [.int pp, .int oo, .str an])) := Kx.new nt5
        have ht5 : (upd H9 t5 (.tup [.int pp, .int oo, .str an])) t5 = some (.tup [.int pp, .int oo, .str an]) := upd_same
        generalize upd H9 t5 (.tup [.int pp, .int oo, .str an]) = H10 at k10 ht5 ⊢
        have k6a := ((k7.trans k8).trans k9).trans k10
        refine ⟨ky, t5, _, _, rfl, rfl, st_of (k6a.tup hky), st_of ht5, (fun z => nomatch z), (by show 5 ≤ sizeLine; decide), (fun z => nomatch z), fun _ tw ntw => ?_⟩
        have k11 : Kx H10 (upd H10 tw (.tup [.int (1 + cc), .int hh, .int pp, .int oo, .str an])) := Kx.new ntw
        have htw : (upd H10 tw (.tup [.int (1 + cc), .int hh, .int pp, .int oo, .str an])) tw = some (.tup [.int (1 + cc), .int hh, .int pp, .int oo, .str an]) := upd_same
        have k4w := (((k5.trans k6).trans k6a).trans k11)
        have hky' := (k6a.trans k11).tup hky
        have ew : ([.int (1 + cc), .int hh] : List V) ++ [.int pp, .int oo, .str an] = [.int (1 + cc), .int hh, .int pp, .int oo, .str an] := rfl
        rw [ew]
        generalize upd H10 tw (.tup [.int (1 + cc), .int hh, .int pp, .int oo, .str an]) = H11 at k11 htw k4w hky' ⊢
        have hd11 := k4w.dt hd4
        refine ⟨_, rfl, _, rfl, d, _, rfl, DPut.t (k := kW ⟨1 + cc, hh, pp, oo, an⟩) hd11 hky' (lt80 (by rw [List.length_map]; omega)), ?_⟩
        have okw : (⟨1 + cc, hh, pp, oo, an⟩ : Wd).ok := ⟨show 1 ≤ 1 + cc by omega, show 1 + cc ≤ 99 by omega, h0, show hh ≤ 3 by omega, p0, show pp ≤ 7 by omega, o0, show oo ≤ 11 by omega, han⟩
        have e9 := putQ_ent qs (tw, ⟨1 + cc, hh, pp, oo, an⟩)
        refine ⟨putQ qs (tw, ⟨1 + cc, hh, pp, oo, an⟩), _, _, _, _, _, _, _, rfl, (k4.trans k4w).mut nd0, ?_, ?_, ?_, putQ_diff df4, ?_⟩
        · rw [upd_same, ← e9]
        · have hp11 : PAt H11 qs := hp4.k k4w
          have hpa : PAt H11 (putQ qs (tw, ⟨1 + cc, hh, pp, oo, an⟩)) := fun q hq => by
            rcases putQ_mem hq with rfl | hq
            · exact htw
            · exact hp11 q hq
          exact hpa.up hd11 fun ys z => nomatch z
        · intro q hq
          rcases putQ_mem hq with rfl | hq
          · exact okw
          · exact ok4 q hq
        · have := putQ_len qs (tw, (⟨1 + cc, hh, pp, oo, an⟩ : Wd))
          omega
      · rintro σ H4 ⟨qs, v7, v8, v9, v10, v11, v12, v13, rfl, k4, hd4, hp4, ok4, df4, ln4⟩
        refine ⟨d, .dT (qs.map entW), hd4, True.intro, fun od => ?_⟩
        have kL : Kx H1 (upd H4 d (.frz od (.dT (qs.map entW)))) := k4.mut nd0
        have hdL : (upd H4 d (.frz od (.dT (qs.map entW)))) d = some (.frz od (.dT (qs.map entW))) := upd_same
        have hpL : PAt (upd H4 d (.frz od (.dT (qs.map entW)))) qs := hp4.up hd4 fun ys z => nomatch z
        generalize upd H4 d (.frz od (.dT (qs.map entW))) = HL at kL hdL hpL ⊢
        refine ⟨_, rfl, d, od, rfl, .inr ⟨_, hdL, fun D nD => ?_⟩⟩
        have nDd : d ≠ D := ne_of_none hdL nD
        have nD1 : H1 D = none := kL.f _ nD
        refine lc_keysT (Qd := fun H' => H' d = some (.frz od (.dT (qs.map entW))) ∧ Q (.ref D) (upd H' d (.dT (qs.map entW)))) (fun i Hx => Kx H1 Hx ∧ Hx d = some (.frz od (.dT (qs.map entW))) ∧ PAt Hx qs ∧ Hx D = some (.lst (((qs.take i).map (·.1)).map V.ref)))
          ⟨kL.trans (Kx.new nD), by rw [upd_ne nDd]; exact hdL, hpL.k (Kx.new nD), upd_same⟩ (fun i Hx _ z => z.2.1) ?_ ?_
        · rintro i k v b Hx hi hb ⟨kx, hdx, hpx, hDx⟩
          obtain ⟨q1, hq1, eq1⟩ : ∃ q1, qs[i]? = some q1 ∧ entW q1 = (k, v) := by
            rw [List.getElem?_map] at hi
            exact Option.map_eq_some_iff.mp hi
          cases eq1
          refine ⟨rfl, ?_⟩
          refine ⟨_, rfl, _, rfl, d, .ref q1.1, rfl, .inr ⟨_, kW q1.2, b, .inr ⟨_, hdx⟩, rfl, hb, (valV_of df4 (List.mem_of_getElem? hq1)).symm⟩, ?_⟩
          have e1 : qs.take (i + 1) = qs.take i ++ [q1] := by rw [List.take_add_one, hq1] <;> rfl
          refine ⟨_, hDx, lt80 ?_, kx.mut nD1, by rw [upd_ne nDd]; exact hdx, hpx.up hDx (fun ys z => nomatch z), ?_⟩
          · rw [List.length_map, List.length_map, List.length_take]
            omega
          · rw [upd_same, e1, List.map_append, List.map_append] <;> rfl
        · rintro Hx ⟨kx, hdx, hpx, hDx⟩
          rw [List.length_map, List.take_length] at hDx
          refine ⟨hdx, q _ D (qs.map (·.1)) (qs.map (·.2)) ((k1.trans kx).mut nd00) (k1.f _ nD1) (by rw [upd_ne nDd.symm]; exact hDx) ?_ ?_ ?_ ?_⟩
          · exact tat_of (hpx.up hdx fun ys z => nomatch z)
          · rw [List.length_map]
            omega
          · intro x hx
            obtain ⟨q1, hq1, rfl⟩ := List.mem_map.mp hx
            exact ok4 q1 hq1
          · unfold Diff
            rw [List.pairwise_map]
            exact df4
end
end CH
end

section
set_option Elab.async false
set_option linter.all false
set_option maxRecDepth 100000
set_option maxHeartbeats 4000000
namespace CH
open PySem PySem.Spec PyProof.Rows L2
open GxR (TabB TabG Tabbed)
section
variable {P : Program} {w : World} {K : PySem.W.Frag} {mg : Str → Option Value} {base : Heap} {c aA : Addr}
abbrev st_copied : Stmt := top 15
abbrev nm_copied : List Str := ["field", "told", "rest", "row", "at"]
theorem sc_copied : FnScope nm_copied ["field"] (defScope st_copied) := C8.fnScope_by (by decide +kernel)
/-- a number itself -/
def sp_copied_int : Sp := fun vs H Q _ => ∃ (v : Int), vs = [.int v] ∧ Q (.int v) H
theorem ok_copied_int (D : DefT K mg "copied" st_copied c) (T : Tx K mg aA) : C8.Cal P w K mg base 1 "copied" sp_copied_int [] := by
  refine cal_of D sc_copied (fun _ _ _ _ _ _ us hl => match us, hl with | [_], _ => rfl) (fun vs H Q E h => ?_) (fun f A outer s H vs Q E hr h => ?_)
  · obtain ⟨v, rfl, _⟩ := h
    rfl
  · obtain ⟨v, rfl, q⟩ := h
    have nd := sc_copied.nd
    refine ⟨_, (pss_cons (ps_if (pt_not (pt_val (pe_callB call_isi (by rfl) T.z_isinstance (by decide +kernel) (pa_cons (pv 0) (pa_cons (pe_bltn (v := .ty "list") (by rfl) T.z_list (by decide +kernel) rfl) pa_nil))))) (pss_one (ps_ret (pv 0))) pss_nil)
      (pss_cons (ps_set (i := 1) nd rfl (Or.inl rfl) (pe_callTy call_list_of (by rfl) T.z_list (by decide +kernel) (pa_cons (pv 0) pa_nil)))
      (pss_cons (ps_set (i := 2) nd rfl (Or.inl rfl) (pe_lst (pa_cons (pv 1) pa_nil)))
      (pss_cons (ps_while PassesOwn.never (pt_truth (pv 2) (by intro _; rfl)) (pss_cons (ps_set (i := 3) nd rfl (Or.inl rfl) (pe_bm0 PySem.F.plainAttrs_list PySem.F.slot_list_pop PySem.F.type_list_pop mt_pop (pv 2)))
      (pss_one (ps_for PassesOwn.never rfl (pi_range1 (by rfl) T.z_range (pa_cons (pe_callB call_len_seq (by rfl) T.z_len PySem.boot_len (pa_cons (pv 3) pa_nil)) pa_nil)) (pg_name (i := 4) nd rfl (Or.inl rfl)) (pss_one (ps_if (pt_val (pe_callB call_isi (by rfl) T.z_isinstance (by decide +kernel) (pa_cons (pe_ix ix_list (pv 3) (pv 4) (fun _ _ => rfl)) (pa_cons (pe_bltn (v := .ty "list") (by rfl) T.z_list (by decide +kernel) rfl) pa_nil)))) (pss_cons (ps_asg (pe_callTy call_list_of (by rfl) T.z_list (by decide +kernel) (pa_cons (pe_ix ix_list (pv 3) (pv 4) (fun _ _ => rfl)) pa_nil)) (pg_sub (pv 3) (pv 4) set_list))
      (pss_one (ps_expr (pe_bm PySem.F.plainAttrs_list PySem.F.slot_list_append PySem.F.type_list_append mt_append (pv 2) (pa_cons (pe_ix ix_list (pv 3) (pv 4) (fun _ _ => rfl)) pa_nil))))) pss_nil))))))
      (pss_one (ps_ret (pv 1))))))), ?_⟩
    exact ⟨_, rfl, .int v, .ty "list", .type "int", .type "list", false, rfl, .ty _, .base (.int v), kit_ty (by decide +kernel), false, rfl, iteT ⟨_, rfl, q⟩⟩
/-- a list, new, with those within new, too -/
def sp_copied_els (K : PySem.W.Frag) : Sp := fun vs H Q _ => ∃ (a : Addr) (xs : List V) (es : List El), vs = [.ref a] ∧ SqL K H a xs ∧ Paired (El.at_ K H) xs es ∧ es.length ≤ 1000 ∧
  ∀ (H' : Hp) (r q : Addr) (ns : List V), Kx H H' → H r = none → H' r = some (.lst ns) → Cp H H' r q ns es → Q (.ref r) H'
theorem ok_copied_els (D : DefT K mg "copied" st_copied c) (T : Tx K mg aA) : C8.Cal P w K mg base 1 "copied" (sp_copied_els K) [] := by
  refine cal_of D sc_copied (fun _ _ _ _ _ _ us hl => match us, hl with | [_], _ => rfl) (fun vs H Q E h => ?_) (fun f A outer s H vs Q E hr h => ?_)
  · obtain ⟨a, xs, es, rfl, _⟩ := h
    rfl
  · obtain ⟨a, xs, es, rfl, ha, hp, h1000, q⟩ := h
    have nd := sc_copied.nd
    have len := paired_len hp
    refine ⟨_, (pss_cons (ps_if (pt_not (pt_val (pe_callB call_isi (by rfl) T.z_isinstance (by decide +kernel) (pa_cons (pv 0) (pa_cons (pe_bltn (v := .ty "list") (by rfl) T.z_list (by decide +kernel) rfl) pa_nil))))) (pss_one (ps_ret (pv 0))) pss_nil)
      (pss_cons (ps_set (i := 1) nd rfl (Or.inl rfl) (pe_callTy call_list_of (by rfl) T.z_list (by decide +kernel) (pa_cons (pv 0) pa_nil)))
      (pss_cons (ps_set (i := 2) nd rfl (Or.inl rfl) (pe_lst (pa_cons (pv 1) pa_nil)))
      (pss_cons (ps_while PassesOwn.never (pt_truth (pv 2) (by intro _; rfl)) (pss_cons (ps_set (i := 3) nd rfl (Or.inl rfl) (pe_bm0 PySem.F.plainAttrs_list PySem.F.slot_list_pop PySem.F.type_list_pop mt_pop (pv 2)))
      (pss_one (ps_for PassesOwn.never rfl (pi_range1 (by rfl) T.z_range (pa_cons (pe_callB call_len_seq (by rfl) T.z_len PySem.boot_len (pa_cons (pv 3) pa_nil)) pa_nil)) (pg_name (i := 4) nd rfl (Or.inl rfl)) (pss_one (ps_if (pt_val (pe_callB call_isi (by rfl) T.z_isinstance (by decide +kernel) (pa_cons (pe_ix ix_list (pv 3) (pv 4) (fun _ _ => rfl)) (pa_cons (pe_bltn (v := .ty "list") (by rfl) T.z_list (by decide +kernel) rfl) pa_nil)))) (pss_cons (ps_asg (pe_callTy call_list_of (by rfl) T.z_list (by decide +kernel) (pa_cons (pe_ix ix_list (pv 3) (pv 4) (fun _ _ => rfl)) pa_nil)) (pg_sub (pv 3) (pv 4) set_list))
      (pss_one (ps_expr (pe_bm PySem.F.plainAttrs_list PySem.F.slot_list_append PySem.F.type_list_append mt_append (pv 2) (pa_cons (pe_ix ix_list (pv 3) (pv 4) (fun _ _ => rfl)) pa_nil))))) pss_nil))))))
      (pss_one (ps_ret (pv 1))))))), ?_⟩
    refine ⟨_, rfl, .ref a, .ty "list", .type "list", .type "list", true, rfl, .ty _, tyx_lst ha, kit_ty (by decide +kernel), true, rfl, iteF ?_⟩
    refine ⟨_, rfl, a, _, rfl, .inl ha, fun p np => ?_⟩
    have k0 : Kx H (upd H p (.lst xs)) := Kx.new np
    have hp0 : (upd H p (.lst xs)) p = some (.lst xs) := upd_same
    generalize upd H p (.lst xs) = H1 at k0 hp0 ⊢
    refine ⟨_, rfl, (by show 1 ≤ sizeLine; decide), fun b nb => ?_⟩
    have npb : p ≠ b := ne_of_none hp0 nb
    have k1 : Kx H1 (upd H1 b (.lst [.ref p])) := Kx.new nb
    have hb1 : (upd H1 b (.lst [.ref p])) b = some (.lst [.ref p]) := upd_same
    have hp1 := k1.lst hp0
    have nbH := k0.f _ nb
    have k01 := k0.trans k1
    generalize upd H1 b (.lst [.ref p]) = H1 at k01 hb1 hp1 ⊢
    let W : Nat → L2.St → Hp → Prop := fun m σ H2 => ∃ (v3 v4 : Option V), σ = [some (.ref a), some (.ref p), some (.ref b), v3, v4] ∧ Kx H H2 ∧
      ((m = xs.length + 1 ∧ H2 p = some (.lst xs) ∧ H2 b = some (.lst [.ref p])) ∨
       (∃ (ns : List V) (us : List Addr), H2 p = some (.lst ns) ∧ H2 b = some (.lst (us.map V.ref)) ∧ Cp H H2 p b ns es ∧ m = us.length ∧ ∀ u ∈ us, V.ref u ∈ ns))
    refine ⟨W, ⟨xs.length + 1, none, none, rfl, k01, .inl ⟨rfl, hp1, hb1⟩⟩, ?_⟩
    rintro m σ H2 ⟨v3, v4, rfl, k2, ⟨rfl, hp2, hb2⟩ | ⟨ns, us, hp2, hb2, cp, rfl, hus⟩⟩
    · -- the list itself
      refine ⟨_, rfl, true, .inl ⟨_, sq_of hb2, rfl⟩, iteT ⟨fun σ' H' => ∃ m', m' < xs.length + 1 ∧ W m' σ' H', fun _ _ h => h, ?_⟩⟩
      refine ⟨_, rfl, .inl ⟨rfl, _, sq_of hb2⟩, b, _, .ref p, rfl, rfl, hb2, rfl, ?_⟩
      rw [show ([V.ref p] : List V).dropLast = [] from rfl]
      have k3 : Kx H (upd H2 b (.lst [])) := k2.mut nbH
      have hp3 : (upd H2 b (.lst [])) p = some (.lst xs) := by rw [upd_ne npb]; exact hp2
      have hb3 : (upd H2 b (.lst [])) b = some (.lst []) := upd_same
      generalize upd H2 b (.lst []) = H3 at k3 hp3 hb3 ⊢
      refine ⟨_, rfl, p, _, rfl, .inl (sq_of hp3), (xs.length : Int), rfl, by omega, by omega, for_range (lo := 0) (n := xs.length) (fun i σ H2 => ∃ (v4 : Option V) (ns : List V) (us : List Addr),
        σ = [some (.ref a), some (.ref p), some (.ref b), some (.ref p), v4] ∧ Kx H H2 ∧ H2 p = some (.lst (ns ++ xs.drop i)) ∧ H2 b = some (.lst (us.map V.ref)) ∧ Cp H H2 p b ns (es.take i) ∧ (∀ u ∈ us, V.ref u ∈ ns) ∧ us.length ≤ i ∧ ns.length = i)
        ⟨v4, [], [], rfl, k3, hp3, hb3, Cp.nil, fun u h => absurd h (by simp), Nat.le_refl _, rfl⟩ ?_ ?_⟩
      · rintro i σ H4 hi ⟨v4, ns, us, rfl, k4, hp4, hb4, cp, hus, lus, lns⟩
        have ei : (0 : Int) + (i : Int) = ((i : Nat) : Int) := Int.zero_add _
        obtain ⟨v, hv⟩ : ∃ v, xs[i]? = some v := ⟨_, List.getElem?_eq_getElem hi⟩
        obtain ⟨e, he, hve⟩ := paired_at hp hv
        have hve4 := El.at_k k4 hve
        have edrop : xs.drop i = v :: xs.drop (i + 1) := by
          rw [List.drop_eq_getElem_cons hi]
          congr 1
          rw [List.getElem?_eq_getElem hi] at hv
          exact Option.some.inj hv
        have etake : es.take (i + 1) = es.take i ++ [e] := by rw [List.take_add_one, he] <;> rfl
        have hat : (ns ++ xs.drop i)[i]? = some v := by
          rw [List.getElem?_append_right (by omega), lns, Nat.sub_self, edrop] <;> rfl
        have eset : ∀ u, (ns ++ xs.drop i).set i u = (ns ++ [u]) ++ xs.drop (i + 1) := fun u => by
          rw [List.set_append_right _ _ (by omega), lns, Nat.sub_self, edrop, List.append_assoc] <;> rfl
        have lall : (ns ++ xs.drop i).length = xs.length := by
          rw [List.length_append, List.length_drop]
          omega
        cases e with
        | inl n =>
          obtain rfl : v = .int n := hve
          refine ⟨_, rfl, _, rfl, p, _, _, .int n, rfl, rfl, sq_of hp4, by rw [ei]; exact atI_nat hat, .int n, .ty "list", .type "int", .type "list", false, rfl, .ty _, .base (.int n), kit_ty (by decide +kernel), false, rfl, iteF ?_⟩
          refine ⟨_, ns ++ [.int n], us, rfl, k4, ?_, hb4, ?_, fun u hu => List.mem_append_left _ (hus u hu), by omega, by rw [List.length_append, lns]; rfl⟩
          · rw [List.append_assoc, List.singleton_append, ← edrop]
            exact hp4
          · rw [etake]
            exact cp.snoc (e := .inl n) rfl fun t z => nomatch z
        | inr r =>
          obtain ⟨t, rfl, ht, hr1000⟩ := hve4
          refine ⟨_, rfl, _, rfl, p, _, _, .ref t, rfl, rfl, sq_of hp4, by rw [ei]; exact atI_nat hat, .ref t, .ty "list", .type "list", .type "list", true, rfl, .ty _, tyx_lst ht, kit_ty (by decide +kernel), true, rfl, iteT ?_⟩
          refine ⟨_, rfl, _, rfl, p, _, _, .ref t, rfl, rfl, sq_of hp4, by rw [ei]; exact atI_nat hat, t, _, rfl, .inl ht, fun u nu => ?_⟩
          have k5 : Kx H4 (upd H4 u (.lst (r.map V.int))) := Kx.new nu
          have hu5 : (upd H4 u (.lst (r.map V.int))) u = some (.lst (r.map V.int)) := upd_same
          have hp5 := k5.lst hp4
          have hb5 := k5.lst hb4
          have nuH := k4.f _ nu
          have cp5 : Cp H (upd H4 u (.lst (r.map V.int))) p b ns (es.take i) := cp.mono fun t' o _ _ h n => k5.o _ _ h n
          have nup : u ≠ p := (ne_of_none hp4 nu).symm
          have nub : u ≠ b := (ne_of_none hb4 nu).symm
          have k45 := k4.trans k5
          have hnu : V.ref u ∉ ns := fun z => by
            obtain ⟨j, hj⟩ := List.mem_iff_getElem?.mp z
            obtain ⟨e', _, he'⟩ := paired_at cp.pr hj
            cases e' with
            | inl n => exact nomatch (show V.ref u = V.int n from he')
            | inr r' =>
              obtain ⟨t', e1, e2, _, _⟩ := he'
              cases e1
              rw [nu] at e2
              cases e2
          generalize upd H4 u (.lst (r.map V.int)) = H5 at k45 hu5 hp5 hb5 cp5 ⊢
          refine ⟨_, rfl, _, rfl, p, _, _, i, rfl, rfl, hp5, by rw [ei, lall]; exact ixn_at hi, ?_⟩
          rw [eset]
          have hp6 : (upd H5 p (.lst ((ns ++ [.ref u]) ++ xs.drop (i + 1)))) p = some (.lst ((ns ++ [.ref u]) ++ xs.drop (i + 1))) := upd_same
          have hb6 : (upd H5 p (.lst ((ns ++ [.ref u]) ++ xs.drop (i + 1)))) b = some (.lst (us.map V.ref)) := by rw [upd_ne npb.symm]; exact hb5
          have k6 : Kx H (upd H5 p (.lst ((ns ++ [.ref u]) ++ xs.drop (i + 1)))) := k45.mut np
          have hu6 : (upd H5 p (.lst ((ns ++ [.ref u]) ++ xs.drop (i + 1)))) u = some (.lst (r.map V.int)) := by rw [upd_ne nup]; exact hu5
          have cp6 : Cp H (upd H5 p (.lst ((ns ++ [.ref u]) ++ xs.drop (i + 1)))) p b ns (es.take i) := cp5.mono fun t' o n1 _ h _ => by rw [upd_ne n1]; exact h
          generalize upd H5 p (.lst ((ns ++ [.ref u]) ++ xs.drop (i + 1))) = H6 at hp6 hb6 k6 hu6 cp6 ⊢
          have hat6 : ((ns ++ [.ref u]) ++ xs.drop (i + 1))[i]? = some (.ref u) := by
            rw [List.append_assoc, List.getElem?_append_right (by omega), lns, Nat.sub_self] <;> rfl
          refine ⟨_, rfl, .inl ⟨rfl, _, sq_of hb6⟩, _, rfl, _, rfl, p, _, _, .ref u, rfl, rfl, sq_of hp6, by rw [ei]; exact atI_nat hat6, b, _, _, rfl, rfl, hb6, by rw [List.length_map]; exact lt80 (by omega), ?_⟩
          refine ⟨_, ns ++ [.ref u], us ++ [u], rfl, k6.mut nbH, ?_, ?_, ?_, fun y hy => ?_, by rw [List.length_append]; show us.length + 1 ≤ i + 1; omega, by rw [List.length_append, lns]; rfl⟩
          · rw [upd_ne npb]
            exact hp6
          · rw [upd_same, List.map_append] <;> rfl
          · rw [etake]
            refine (cp6.mono fun t' o _ n2 h _ => by rw [upd_ne n2]; exact h).snoc (e := .inr r) ⟨u, rfl, by rw [upd_ne nub]; exact hu6, nuH, hr1000⟩ fun t' z => ?_
            cases z
            exact ⟨nup, nub, hnu⟩
          · rcases List.mem_append.mp hy with hy | hy
            · exact List.mem_append_left _ (hus y hy)
            · rw [List.mem_singleton.mp hy]
              exact List.mem_append_right _ List.mem_cons_self
      · rintro σ H4 ⟨v4, ns, us, rfl, k4, hp4, hb4, cp, hus, lus, lns⟩
        rw [List.drop_length, List.append_nil] at hp4
        rw [len, List.take_length] at cp
        exact ⟨us.length, by omega, _, v4, rfl, k4, .inr ⟨ns, us, hp4, hb4, cp, rfl, hus⟩⟩
    · -- the lists within
      by_cases hu0 : us = []
      · subst hu0
        refine ⟨_, rfl, false, .inl ⟨_, sq_of hb2, rfl⟩, iteF ?_⟩
        exact ⟨_, rfl, q H2 p b ns k2 np hp2 cp⟩
      · obtain ⟨us', u, rfl⟩ : ∃ us' u, us = us' ++ [u] := ⟨us.dropLast, us.getLast hu0, (List.dropLast_concat_getLast hu0).symm⟩
        rw [List.map_append] at hb2
        refine ⟨_, rfl, true, .inl ⟨_, sq_of hb2, by cases us' <;> rfl⟩, iteT ⟨fun σ' H' => ∃ m', m' < (us' ++ [u]).length ∧ W m' σ' H', fun _ _ h => h, ?_⟩⟩
        refine ⟨_, rfl, .inl ⟨rfl, _, sq_of hb2⟩, b, _, .ref u, rfl, rfl, hb2, by rw [List.length_append, List.length_map]; show (_ ++ [V.ref u])[us'.length + 1 - 1]? = _; rw [Nat.add_sub_cancel, List.getElem?_append_right (by rw [List.length_map]; exact Nat.le_refl _), List.length_map, Nat.sub_self] <;> rfl, ?_⟩
        rw [show (us'.map V.ref ++ [u].map V.ref).dropLast = us'.map V.ref from List.dropLast_concat]
        obtain ⟨j, hj⟩ := List.mem_iff_getElem?.mp (hus u (by simp))
        obtain ⟨e', he0, he'⟩ := paired_at cp.pr hj
        have hd := cp.d u (hus u (by simp))
        cases e' with
        | inl n => exact nomatch (show V.ref u = V.int n from he')
        | inr r =>
          obtain ⟨t', e1, e2, _, hr1000⟩ := he'
          cases e1
          have k3 : Kx H (upd H2 b (.lst (us'.map V.ref))) := k2.mut nbH
          have hp3 : (upd H2 b (.lst (us'.map V.ref))) p = some (.lst ns) := by rw [upd_ne npb]; exact hp2
          have hb3 : (upd H2 b (.lst (us'.map V.ref))) b = some (.lst (us'.map V.ref)) := upd_same
          have hu3 : (upd H2 b (.lst (us'.map V.ref))) u = some (.lst (r.map V.int)) := by rw [upd_ne hd.2]; exact e2
          have cp3 : Cp H (upd H2 b (.lst (us'.map V.ref))) p b ns es := cp.mono fun t' o _ n2 h _ => by rw [upd_ne n2]; exact h
          generalize upd H2 b (.lst (us'.map V.ref)) = H3 at k3 hp3 hb3 hu3 cp3 ⊢
          refine ⟨_, rfl, u, _, rfl, .inl (sq_of hu3), ((r.map V.int).length : Int), rfl, by rw [List.length_map]; omega, by rw [List.length_map]; omega, for_range (lo := 0) (n := (r.map V.int).length) (fun i σ H4 => ∃ (v4 : Option V),
            σ = [some (.ref a), some (.ref p), some (.ref b), some (.ref u), v4] ∧ H4 = H3) ⟨v4, rfl, rfl⟩ ?_ ?_⟩
          · rintro i σ H4 hi ⟨v4, rfl, rfl⟩
            have ei : (0 : Int) + (i : Int) = ((i : Nat) : Int) := Int.zero_add _
            rw [List.length_map] at hi
            have hat : (r.map V.int)[i]? = some (.int r[i]) := by rw [List.getElem?_map, List.getElem?_eq_getElem hi] <;> rfl
            refine ⟨_, rfl, _, rfl, u, _, _, _, rfl, rfl, sq_of hu3, by rw [ei]; exact atI_nat hat, .int r[i], .ty "list", .type "int", .type "list", false, rfl, .ty _, .base (.int _), kit_ty (by decide +kernel), false, rfl, iteF ?_⟩
            exact ⟨_, rfl, rfl⟩
          · rintro σ H4 ⟨v4, rfl, rfl⟩
            exact ⟨us'.length, by rw [List.length_append]; show _ < us'.length + 1; omega, _, v4, rfl, k3, .inr ⟨ns, us', hp3, hb3, cp3, rfl, fun y hy => hus y (List.mem_append_left _ hy)⟩⟩
end
end CH
end

section
set_option Elab.async false
set_option linter.all false
set_option maxRecDepth 100000
set_option maxHeartbeats 4000000
namespace CH
open PySem PySem.Spec PyProof.Rows L2
open GxR (TabB TabG Tabbed)
section
variable {P : Program} {w : World} {K : PySem.W.Frag} {mg : Str → Option Value} {base : Heap} {c aA cc cm : Addr}
abbrev st_are_numbers : Stmt := top 16
abbrev nm_are_numbers : List Str := ["field", "member"]
theorem sc_are_numbers : FnScope nm_are_numbers ["field"] (defScope st_are_numbers) := C8.fnScope_by (by decide +kernel)
def sp_are_numbers (K : PySem.W.Frag) : Sp := fun vs H Q _ => ∃ (r : Addr) (ns : List Int), vs = [.ref r] ∧ SqL K H r (ns.map V.int) ∧ ns.length ≤ 4000 ∧ ∀ H', Kx H H' → Q (.bl true) H'
theorem ok_are_numbers (D : DefT K mg "are_numbers" st_are_numbers c) (T : Tx K mg aA) (f_is_whole : C8.Cal P w K mg base 1 "is_whole" sp_is_whole []) : C8.Cal P w K mg base 2 "are_numbers" (sp_are_numbers K) [] := by
  refine cal_of D sc_are_numbers (fun _ _ _ _ _ _ us hl => match us, hl with | [_], _ => rfl) (fun vs H Q E h => ?_) (fun f A outer s H vs Q E hr h => ?_)
  · obtain ⟨r, ns, rfl, _⟩ := h
    rfl
  · obtain ⟨r, ns, rfl, hrr, h4, q⟩ := h
    have nd := sc_are_numbers.nd
    refine ⟨_, (pss_one (ps_ret (pe_and (pe_callB call_isi (by rfl) T.z_isinstance (by decide +kernel) (pa_cons (pv 0) (pa_cons (pe_bltn (v := .ty "list") (by rfl) T.z_list (by decide +kernel) rfl) pa_nil))) (pe_one (pe_callB (cr_all rfl) (by rfl) T.z_all (by decide +kernel) (pa_cons (pe_lc (own := [("member", 1)]) (g := gName 1) (tt := tYes) (by rfl) nd (pi_list (pv 0)) (blkOk_by (own := [("member", 1)]) (N := nm_are_numbers) (sc := defScope st_are_numbers) (by decide +kernel)) (fun _ _ _ _ _ => pg_name (i := 1) nd rfl (Or.inl rfl)) (fun _ _ _ _ _ => pts_nil) (fun _ _ _ _ _ => (C8.pe_c f_is_whole hr (by decide) (by rfl) (pa_cons (pv 1) pa_nil)))) pa_nil)))))), ?_⟩
    refine ⟨_, rfl, .ref r, .ty "list", .type "list", .type "list", true, rfl, .ty _, tyx_lst hrr, kit_ty (by decide +kernel), true, rfl, iteT ?_⟩
    refine ⟨_, rfl, r, rfl, ⟨_, hrr⟩, fun D1 nD1 => ?_⟩
    refine lc_bools (fun x => true) hrr nD1 h4 (fun x => rfl) (fun x H3 hx k3 Q' hq => ?_) fun H3 k3 hD1 => ?_
    · exact ⟨_, rfl, x, rfl, hq H3 (Kx.refl H3)⟩
    refine ⟨D1, _, rfl, sq_of hD1, ?_⟩
    rw [all_map, show (ns.all fun x => true) = true by simp]
    exact q H3 k3
abbrev st_are_each_once : Stmt := top 17
abbrev nm_are_each_once : List Str := ["numbers"]
theorem sc_are_each_once : FnScope nm_are_each_once ["numbers"] (defScope st_are_each_once) := C8.fnScope_by (by decide +kernel)
def sp_are_each_once (K : PySem.W.Frag) : Sp := fun vs H Q _ => ∃ (r : Addr) (ns : List Int), vs = [.ref r] ∧ SqL K H r (ns.map V.int) ∧ ns.length ≤ 4000 ∧ Q (.bl (decide ns.Nodup)) H
theorem ok_are_each_once (D : DefT K mg "are_each_once" st_are_each_once c) (T : Tx K mg aA) : C8.Cal P w K mg base 1 "are_each_once" (sp_are_each_once K) [] := by
  refine cal_of D sc_are_each_once (fun _ _ _ _ _ _ us hl => match us, hl with | [_], _ => rfl) (fun vs H Q E h => ?_) (fun f A outer s H vs Q E hr h => ?_)
  · obtain ⟨r, ns, rfl, _⟩ := h
    rfl
  · obtain ⟨r, ns, rfl, hrr, h4, q⟩ := h
    have nd := sc_are_each_once.nd
    refine ⟨_, (pss_one (ps_ret (pe_cmpR op_eq (pe_lenSetG (by rfl) T.z_len (by rfl) T.z_set (pv 0)) (pe_callB call_len_seq (by rfl) T.z_len PySem.boot_len (pa_cons (pv 0) pa_nil)) (nomark _)))), ?_⟩
    refine ⟨_, rfl, r, ns, rfl, hrr, h4, _, rfl, r, _, rfl, .inl hrr, rfl, ?_⟩
    rw [List.length_map, show decide (V.int (dis ns : Int) = V.int (ns.length : Int)) = decide ns.Nodup from decide_eq_decide.mpr ⟨fun z => (dis_eq ns).mp (Int.ofNat.inj (V.int.inj z)), fun z => by rw [(dis_eq ns).mpr z]⟩]
    exact q
abbrev st_bars : Stmt := top 18
abbrev nm_bars : List Str := ["row", "meeting", "hour", "answers", "people", "enough", "needed", "person"]
theorem sc_bars : FnScope nm_bars ["row", "meeting", "hour", "answers"] (defScope st_bars) := C8.fnScope_by (by decide +kernel)
def sp_bars (K : PySem.W.Frag) : Sp := fun vs H Q _ => ∃ (r a d : Addr) (o : Int) (m : Mt) (kvs : List (List Key × V)) (f : Int → Int → Option Str) (ns : List Int), vs = [.ref r, .ref a, .int o, .ref d] ∧ MAt K H a m ∧ m.ok ∧ H d = some (.dT kvs) ∧ AnsD kvs f ∧
  SqL K H r (ns.map V.int) ∧ ns.length ≤ 4000 ∧ ∀ H' : Hp, Kx H H' → Q (.bl (barsB m (fun x => f x o) ns)) H'
theorem ok_bars (D : DefT K mg "bars" st_bars c) (T : Tx K mg aA) (f_are_numbers : C8.Cal P w K mg base 2 "are_numbers" (sp_are_numbers K) []) (f_are_each_once : C8.Cal P w K mg base 1 "are_each_once" (sp_are_each_once K) []) (f_answer_of : C8.Cal P w K mg base 1 "answer_of" sp_answer_of []) : C8.Cal P w K mg base 3 "bars" (sp_bars K) [] := by
  refine cal_of D sc_bars (fun _ _ _ _ _ _ us hl => match us, hl with | [_, _, _, _], _ => rfl) (fun vs H Q E h => ?_) (fun fa A outer s H vs Q E hr h => ?_)
  · obtain ⟨r, a, d, o, m, kvs, f, ns, rfl, _⟩ := h
    rfl
  · obtain ⟨r, a, d, o, m, kvs, f, ns, rfl, ⟨p, n, ha, hp, hn⟩, mok, hd, hf, hrr, h4, q⟩ := h
    have nd := sc_bars.nd
    have hu := hu_of hr
    refine ⟨_, (pss_cons (ps_asg (pv 1) (pg_tup (by rfl) (pgs_cons (pg_name (i := 4) nd rfl (Or.inr rfl)) (pgs_cons (pg_name (i := 5) nd rfl (Or.inl rfl)) (pgs_cons (pg_name (i := 6) nd rfl (Or.inr rfl)) pgs_nil)))))
      (pss_cons (ps_if (PW.pt (pw_or (pt_not (pt_val (C8.pe_c f_are_numbers hr (by decide) (by rfl) (pa_cons (pv 0) pa_nil)))) (pw_or1 (pt_not (pt_val (C8.pe_c f_are_each_once hr (by decide) (by rfl) (pa_cons (pv 0) pa_nil))))))) (pss_one (ps_ret pe_bl)) pss_nil)
      (pss_cons (ps_if (pt_not (pt_val (pe_callB (cr_all rfl) (by rfl) T.z_all (by decide +kernel) (pa_cons (pe_lc (own := [("person", 7)]) (g := gName 7) (tt := tYes) (by rfl) nd (pi_list (pv 0)) (blkOk_by (own := [("person", 7)]) (N := nm_bars) (sc := defScope st_bars) (by decide +kernel)) (fun _ _ _ _ _ => pg_name (i := 7) nd rfl (Or.inl rfl)) (fun _ _ _ _ _ => pts_nil) (fun _ _ _ _ _ => (pe_and (pe_cmpR (show OpR _ (compareOp .In) (rIn K false) from op_in_seq) (pv 7) (pv 4) (by rfl)) (pe_one (pe_cmpR op_ne (C8.pe_c f_answer_of hr (by decide) (by rfl) (pa_cons (pv 7) (pa_cons (pv 2) (pa_cons (pv 3) pa_nil)))) pe_str (nomark _)))))) pa_nil)))) (pss_one (ps_ret pe_bl)) pss_nil)
      (pss_one (ps_ret (pe_or (pe_cmpR op_gt (pe_callB call_len_seq (by rfl) T.z_len PySem.boot_len (pa_cons (pv 0) pa_nil)) (pe_op op_sub (pe_callB call_len_seq (by rfl) T.z_len PySem.boot_len (pa_cons (pv 4) pa_nil)) (pv 5)) (nomark _)) (pe_one (pe_callB (cr_any rfl) (by rfl) T.z_any (by decide +kernel) (pa_cons (pe_lc (own := [("person", 7)]) (g := gName 7) (tt := tYes) (by rfl) nd (pi_list (pv 0)) (blkOk_by (own := [("person", 7)]) (N := nm_bars) (sc := defScope st_bars) (by decide +kernel)) (fun _ _ _ _ _ => pg_name (i := 7) nd rfl (Or.inl rfl)) (fun _ _ _ _ _ => pts_nil) (fun _ _ _ _ _ => (pe_cmpR (show OpR _ (compareOp .In) (rIn K false) from op_in_seq) (pv 7) (pv 6) (by rfl)))) pa_nil))))))))), ?_⟩
    refine ⟨_, rfl, a, _, rfl, ha, rfl, _, _, rfl, _, _, rfl, _, _, rfl, rfl, ?_⟩
    refine ⟨_, rfl, r, ns, rfl, hrr, h4, fun H1 k1 => ⟨true, rfl, iteF ?_⟩⟩
    have hrr1 := k1.l hrr
    refine ⟨_, rfl, r, ns, rfl, hrr1, h4, decide ns.Nodup, rfl, ?_⟩
    by_cases dn : ns.Nodup
    case neg =>
      rw [decide_eq_false dn]
      refine iteT ?_
      have q0 := q H1 k1
      rw [show barsB m (fun x => f x o) ns = false by unfold barsB; rw [decide_eq_false dn]; rfl] at q0
      exact q0
    rw [decide_eq_true dn]
    refine iteF ?_
    refine ⟨_, rfl, r, rfl, ⟨_, hrr1⟩, fun D1 nD1 => ?_⟩
    refine lc_bools (fun x => decide (x ∈ m.ps) && !decide ((f x o).getD "no" = "yes")) hrr1 nD1 h4 (fun x => rfl) (fun x H3 hx k3 Q' hq => ?_) fun H3 k3 hD1 => ?_
    · have k13 := k1.trans k3
      refine ⟨_, rfl, _, rfl, p, _, rfl, .inr (k13.t hp), rfl, flat_int _, ?_⟩
      rw [if_neg Bool.false_ne_true, inV_int]
      by_cases hx : x ∈ m.ps
      · rw [decide_eq_true hx] at hq ⊢
        refine ⟨true, rfl, iteT ?_⟩
        refine ⟨_, rfl, _, rfl, _, rfl, d, x, o, kvs, f, rfl, k13.dt hd, hf, fun H4 k4 => ⟨rfl, ?_⟩⟩
        rw [show decide (V.str ((f x o).getD "no") = V.str "yes") = decide ((f x o).getD "no" = "yes") from decide_eq_decide.mpr ⟨fun z => V.str.inj z, fun z => by rw [z]⟩]
        exact hq H4 k4
      · rw [decide_eq_false hx] at hq ⊢
        refine ⟨false, rfl, iteF ?_⟩
        exact hq H3 (Kx.refl H3)
    refine ⟨D1, _, rfl, sq_of hD1, _, rfl, ?_⟩
    rw [all_map]
    have k13 := k1.trans k3
    have eb : barsB m (fun x => f x o) ns = ((ns.all fun x => decide (x ∈ m.ps) && !decide ((f x o).getD "no" = "yes")) && (decide ((m.ps.length : Int) - m.e < (ns.length : Int)) || ns.any fun x => decide (x ∈ m.nds))) := by
      unfold barsB
      rw [decide_eq_true dn, Bool.true_and, show (ns.all fun x => decide (x ∈ m.ps) && !decide ((f x o).getD "no" = "yes")) = ((ns.all fun x => decide (x ∈ m.ps)) && (ns.all fun x => !decide ((f x o).getD "no" = "yes"))) from by
        rw [Bool.eq_iff_iff, Bool.and_eq_true, List.all_eq_true, List.all_eq_true, List.all_eq_true]
        exact ⟨fun z => ⟨fun x hx => (Bool.and_eq_true _ _ ▸ z x hx).1, fun x hx => (Bool.and_eq_true _ _ ▸ z x hx).2⟩, fun z x hx => by rw [Bool.and_eq_true]; exact ⟨z.1 x hx, z.2 x hx⟩⟩]
    rw [eb] at q
    by_cases b1 : (ns.all fun x => decide (x ∈ m.ps) && !decide ((f x o).getD "no" = "yes")) = true
    case neg =>
      rw [Bool.eq_false_iff.mpr b1] at q ⊢
      exact iteT (q H3 k13)
    rw [b1] at q ⊢
    refine iteF ?_
    refine ⟨_, rfl, r, _, rfl, .inl (k13.l hrr), _, rfl, p, _, rfl, .inr (k13.t hp), _, rfl, _, _, rfl, rfl, _, _, rfl, rfl, _, rfl, ?_⟩
    rw [List.length_map, List.length_map]
    by_cases b3 : (m.ps.length : Int) - m.e < (ns.length : Int)
    · rw [decide_eq_true b3] at q ⊢
      exact iteT (q H3 k13)
    rw [decide_eq_false b3] at q ⊢
    refine iteF ?_
    have hrr4 := k13.l hrr
    refine ⟨_, rfl, r, rfl, ⟨_, hrr4⟩, fun D3 nD3 => ?_⟩
    refine lc_bools (fun x => decide (x ∈ m.nds)) hrr4 nD3 h4 (fun x => rfl) (fun x H5 hx k5 Q' hq => ?_) fun H5 k5 hD3 => ?_
    · refine ⟨_, rfl, _, rfl, n, _, rfl, .inr ((k13.trans k5).t hn), rfl, flat_int _, ?_⟩
      rw [if_neg Bool.false_ne_true, inV_int]
      exact hq H5 (Kx.refl H5)
    refine ⟨D3, _, rfl, sq_of hD3, ?_⟩
    rw [any_map]
    exact q H5 (k13.trans k5)
end
end CH
end

section
set_option Elab.async false
set_option linter.all false
set_option maxRecDepth 100000
set_option maxHeartbeats 4000000
namespace CH
open PySem PySem.Spec PyProof.Rows L2
open GxR (TabB TabG Tabbed)
section
variable {P : Program} {w : World} {K : PySem.W.Frag} {mg : Str → Option Value} {base : Heap} {c aA cc cm cAt cBa : Addr}
abbrev st_At_init : Stmt := inClass (top 13) 0
abbrev nm_At_init : List Str := ["self", "hour"]
theorem sc_At_init : FnScope nm_At_init ["self", "hour"] (defScope st_At_init) := C8.fnScope_by (by decide +kernel)
abbrev st_At_shows : Stmt := inClass (top 13) 1
abbrev nm_At_shows : List Str := ["self", "words", "meeting", "found"]
theorem sc_At_shows : FnScope nm_At_shows ["self", "words", "meeting"] (defScope st_At_shows) := C8.fnScope_by (by decide +kernel)
abbrev st_Barred_init : Stmt := inClass (top 14) 0
abbrev nm_Barred_init : List Str := ["self", "rows"]
theorem sc_Barred_init : FnScope nm_Barred_init ["self", "rows"] (defScope st_Barred_init) := C8.fnScope_by (by decide +kernel)
abbrev st_Barred_shows : Stmt := inClass (top 14) 1
abbrev nm_Barred_shows : List Str := ["self", "words", "meeting", "answers", "hour", "row"]
theorem sc_Barred_shows : FnScope nm_Barred_shows ["self", "words", "meeting"] (defScope st_Barred_shows) := C8.fnScope_by (by decide +kernel)
def sp_At_init (cAt : Addr) : Sp := fun vs H Q _ => ∃ (x dx : Addr) (h : Int), vs = [.ref x, .int h] ∧ H x = some (.ins cAt dx []) ∧ Q .non (upd H x (.ins cAt dx [("hour", .int h)]))
theorem ok_At_init (D : MakT K mg "At" cAt "At.__init__" st_At_init c) (e_At : Own K mg "At" cAt) (n_hour : NoAttr K cAt "hour") (f_copied : C8.Cal P w K mg base 1 "copied" sp_copied_int []) : C8.Mak P w K mg base 2 "At" cAt (sp_At_init cAt) [] := by
  refine mak_of D sc_At_init (fun _ _ _ _ _ _ us hl => match us, hl with | [_, _], _ => rfl) (fun vs H Q E h => ?_) (fun f A outer s H vs Q E hr h => ?_)
  · obtain ⟨x, dx, h, rfl, _⟩ := h
    rfl
  · obtain ⟨x, dx, h, rfl, hx, q⟩ := h
    have nd := sc_At_init.nd
    refine ⟨_, (pss_one (ps_fld (pv 0) (C8.pe_c f_copied hr (by decide) (by rfl) (pa_cons (pv 1) pa_nil)) rfl)), ?_⟩
    exact ⟨_, rfl, h, rfl, _, rfl, x, cAt, dx, _, rfl, hx, e_At.cl, n_hour, (by show 0 < 1000; decide), q⟩
def sp_At_shows (K : PySem.W.Frag) (cAt cc : Addr) : Sp := fun vs H Q _ => ∃ (x dx l a : Addr) (h : Int) (ws : List Wd) (m : Mt), vs = [.ref x, .ref l, .ref a] ∧ H x = some (.ins cAt dx [("hour", .int h)]) ∧ Words K H l ws ∧ MAt K H a m ∧ m.ok ∧ TabG H cc ∧
  ∀ H', Kx H H' → Q (.bl (atB m ws h)) H'
theorem ok_At_shows (D : MetT K cAt "shows" "At.shows" st_At_shows c) (e_At : Own K mg "At" cAt) (n_hour : NoAttr K cAt "hour") (T : Tx K mg aA) {aY : Addr} (hY : ∀ H, SqT K H aY ((["yes"] : List Str).map V.str)) (f_answers_that_count : C8.Cal P w K mg base 1 "answers_that_count" (sp_answers_that_count K) []) (f_hours_of : C8.Cal P w K mg base 3 "hours_of" (sp_hours_of K cc) [.ref aY])
    (f_is_hour : C8.Cal P w K mg base 3 "is_hour" sp_is_hour []) : C8.Met P w K mg base 4 cAt "shows" (sp_At_shows K cAt cc) [] := by
  refine met_of D sc_At_shows (fun _ _ _ _ _ _ us hl => match us, hl with | [_, _, _], _ => rfl) (fun vs H Q E h => ?_) (fun f A outer s H vs Q E hr h => ?_)
  · obtain ⟨x, dx, l, a, h, ws, m, rfl, _⟩ := h
    rfl
  · obtain ⟨x, dx, l, a, h, ws, m, rfl, hx, hw, hm, mok, tc, q⟩ := h
    have nd := sc_At_shows.nd
    refine ⟨_, (pss_cons (ps_set (i := 3) nd rfl (Or.inl rfl) (C8.pe_c f_hours_of hr (by decide) (by rfl) (pa_cons (pv 2) (pa_cons (C8.pe_c f_answers_that_count hr (by decide) (by rfl) (pa_cons (pv 1) pa_nil)) pa_nil))))
      (pss_one (ps_ret (pe_and (C8.pe_c f_is_hour hr (by decide) (by rfl) (pa_cons (pe_fld (pv 0) rfl) pa_nil)) (pe_one (pe_cmpR (op_eqD hr.units) (pe_slice sl_list (pv 3) po_none (po_some pe_int)) (pe_lst (pa_cons (pe_fld (pv 0) rfl) pa_nil)) (nomark _))))))), ?_⟩
    obtain ⟨⟨ts, hl, ht⟩, h80, ok, al⟩ := id hw
    refine ⟨_, rfl, _, rfl, l, ts, ws, rfl, hl, ht, by omega, al, fun H1 d kvs k1 nd1 hd1 ha1 => ?_⟩
    refine ⟨a, d, aY, m, kvs, ansW ws, ["yes"], rfl, hm.k k1, rise_len8 mok.p, hd1, ha1, hY _, k1.g _ tc, fun H2 r k2 nr2 hr2 => ?_⟩
    have k12 := k1.trans k2
    have hx2 := k12.o _ _ hx fun ps z => nomatch z
    refine ⟨_, rfl, x, cAt, dx, _, _, rfl, hx2, e_At.cl, n_hour, rfl, h, rfl, ?_⟩
    by_cases hh : 0 ≤ h ∧ h ≤ 11
    case neg =>
      rw [decide_eq_false hh]
      refine ⟨false, rfl, iteF ?_⟩
      have q0 := q H2 k12
      rw [show atB m ws h = false from decide_eq_false fun z => hh (hoursL_mem (List.mem_of_mem_take (by rw [z]; exact List.mem_cons_self : h ∈ (hoursL m ["yes"] (ansF ws)).take 1)))] at q0
      exact q0
    rw [decide_eq_true hh]
    refine ⟨true, rfl, iteT ?_⟩
    refine ⟨_, rfl, 1, rfl, r, _, rfl, sq_of hr2, fun p np => ?_⟩
    rw [show (some (1 : Int)) = some ((1 : Nat) : Int) from rfl, cutV_take, ← List.map_take]
    have k3 : Kx H2 (upd H2 p (.lst (((hoursL m ["yes"] (ansF ws)).take 1).map V.int))) := Kx.new np
    have hp3 : (upd H2 p (.lst (((hoursL m ["yes"] (ansF ws)).take 1).map V.int))) p = some (.lst (((hoursL m ["yes"] (ansF ws)).take 1).map V.int)) := upd_same
    have hx3 := k3.o _ _ hx2 fun ps z => nomatch z
    refine ⟨_, rfl, x, cAt, dx, _, _, rfl, hx3, e_At.cl, n_hour, rfl, (by show 1 ≤ sizeLine; decide), fun y ny => ?_⟩
    have k4 := Kx.new (u := .lst [.int h]) ny
    refine ⟨isD _, isD [h], isD_dp (sq_of (k4.lst hp3)), isD_dp (sq_of upd_same), isD_sh _, isD_sh _, ?_⟩
    rw [isD_eqv]
    exact q _ ((k12.trans k3).trans k4)
def sp_Barred_init (K : PySem.W.Frag) (cBa : Addr) : Sp := fun vs H Q _ => ∃ (H0 : Hp) (x dx l : Addr) (ts : List Addr) (rs : List (List Int)), vs = [.ref x, .ref l] ∧ H = upd (upd H0 dx (.own x)) x (.ins cBa dx []) ∧ H0 x = none ∧ H0 dx = none ∧ dx ≠ x ∧ SqL K H0 l (ts.map V.ref) ∧ RowsIn K H0 ts rs ∧ rs.length ≤ 1000 ∧
  ∀ (H' : Hp) (r : Addr) (ts' : List Addr), Kx H0 H' → H' x = some (.ins cBa dx [("rows", .ref r)]) → H0 r = none → H' r = some (.lst (ts'.map V.ref)) → RowsNew H0 H' r ts' rs → Q .non H'
theorem ok_Barred_init (D : MakT K mg "Barred" cBa "Barred.__init__" st_Barred_init c) (e_Barred : Own K mg "Barred" cBa) (n_rows : NoAttr K cBa "rows") (f_copied : C8.Cal P w K mg base 1 "copied" (sp_copied_els K) []) : C8.Mak P w K mg base 2 "Barred" cBa (sp_Barred_init K cBa) [] := by
  refine mak_of D sc_Barred_init (fun _ _ _ _ _ _ us hl => match us, hl with | [_, _], _ => rfl) (fun vs H Q E h => ?_) (fun f A outer s H vs Q E hr h => ?_)
  · obtain ⟨H0, x, dx, l, ts, rs, rfl, _⟩ := h
    rfl
  · obtain ⟨H0, x, dx, l, ts, rs, rfl, rfl, nx, ndx, ndxx, hl, hrs, lrs, q⟩ := h
    have nd := sc_Barred_init.nd
    have k0 : Kx H0 (upd (upd H0 dx (.own x)) x (.ins cBa dx [])) := (Kx.new ndx).mut nx
    refine ⟨_, (pss_one (ps_fld (pv 0) (C8.pe_c f_copied hr (by decide) (by rfl) (pa_cons (pv 1) pa_nil)) rfl)), ?_⟩
    refine ⟨_, rfl, l, _, rs.map Sum.inr, rfl, k0.l hl, at_rows (hrs.k k0), (by rw [List.length_map]; exact lrs), fun H1 r b ns k1 nr hr1 cp => ?_⟩
    obtain ⟨ts', rfl, rn⟩ := cp.rows
    have hx1 := k1.o _ _ (show (upd (upd H0 dx (.own x)) x (.ins cBa dx [])) x = some (.ins cBa dx []) from upd_same) fun ps z => nomatch z
    refine ⟨_, rfl, x, cBa, dx, _, rfl, hx1, e_Barred.cl, n_rows, (by show 0 < 1000; decide), ?_⟩
    have nrx : r ≠ x := fun z => by rw [z, upd_same] at nr; cases nr
    refine q _ r ts' (Kx.made nx ndx k1) upd_same (k0.f _ nr) (by rw [upd_ne nrx]; exact hr1) ⟨?_, fun t ht => k0.f _ (rn.new t ht), rn.ne, rn.nd⟩
    exact rn.at_.up fun t ht z => by
      have := rn.new t ht
      rw [z, upd_same] at this
      cases this
def sp_Barred_shows (K : PySem.W.Frag) (cBa : Addr) : Sp := fun vs H Q _ => ∃ (x dx l a r : Addr) (ts : List Addr) (rs : List (List Int)) (ws : List Wd) (m : Mt), vs = [.ref x, .ref l, .ref a] ∧ H x = some (.ins cBa dx [("rows", .ref r)]) ∧ SqL K H r (ts.map V.ref) ∧ RowsIn K H ts rs ∧ rs.length ≤ 1000 ∧ Words K H l ws ∧ MAt K H a m ∧ m.ok ∧
  ∀ H', Kx H H' → Q (.bl (barredB m ws rs)) H'
theorem ok_Barred_shows (D : MetT K cBa "shows" "Barred.shows" st_Barred_shows c) (e_Barred : Own K mg "Barred" cBa) (n_rows : NoAttr K cBa "rows") (T : Tx K mg aA) (f_answers_that_count : C8.Cal P w K mg base 1 "answers_that_count" (sp_answers_that_count K) []) (f_bars : C8.Cal P w K mg base 3 "bars" (sp_bars K) []) : C8.Met P w K mg base 4 cBa "shows" (sp_Barred_shows K cBa) [] := by
  refine met_of D sc_Barred_shows (fun _ _ _ _ _ _ us hl => match us, hl with | [_, _, _], _ => rfl) (fun vs H Q E h => ?_) (fun f A outer s H vs Q E hr h => ?_)
  · obtain ⟨x, dx, l, a, r, ts, rs, ws, m, rfl, _⟩ := h
    rfl
  · obtain ⟨x, dx, l, a, r, ts, rs, ws, m, rfl, hx, hr0, hrs, lrs, hw, hm, mok, q⟩ := h
    have nd := sc_Barred_shows.nd
    have len := paired_len hrs
    refine ⟨_, (pss_cons (ps_if (PW.pt (pw_or (pt_not (pt_val (pe_callB call_isi (by rfl) T.z_isinstance (by decide +kernel) (pa_cons (pe_fld (pv 0) rfl) (pa_cons (pe_bltn (v := .ty "list") (by rfl) T.z_list (by decide +kernel) rfl) pa_nil))))) (pw_or1 (pt_cmpR op_ne (pe_callB call_len_seq (by rfl) T.z_len PySem.boot_len (pa_cons (pe_fld (pv 0) rfl) pa_nil)) (C8.pe_gc (by rfl) T.c_HOURS) (nomark _))))) (pss_one (ps_ret pe_bl)) pss_nil)
      (pss_cons (ps_set (i := 3) nd rfl (Or.inr rfl) (C8.pe_c f_answers_that_count hr (by decide) (by rfl) (pa_cons (pv 1) pa_nil)))
      (pss_one (ps_ret (pe_callB (cr_all rfl) (by rfl) T.z_all (by decide +kernel) (pa_cons (pe_lc (own := [("hour", 4), ("row", 5)]) (g := (gTup K 2 (gCons (gName 4) (gCons (gName 5) gNil)))) (tt := tYes) (by rfl) nd (pi_enum (by rfl) T.z_enumerate (pa_cons (pe_fld (pv 0) rfl) pa_nil)) (blkOk_by (own := [("hour", 4), ("row", 5)]) (N := nm_Barred_shows) (sc := defScope st_Barred_shows) (by decide +kernel)) (fun _ _ _ _ _ => (show PG _ _ (gTup K 2 (gCons (gName 4) (gCons (gName 5) gNil))) from pg_tup (by rfl) (pgs_cons (pg_name (i := 4) nd rfl (Or.inl rfl)) (pgs_cons (pg_name (i := 5) nd rfl (Or.inl rfl)) pgs_nil)))) (fun _ _ _ _ _ => pts_nil) (fun _ _ _ _ _ => (C8.pe_c f_bars hr (by decide) (by rfl) (pa_cons (pv 5) (pa_cons (pv 2) (pa_cons (pv 4) (pa_cons (pv 3) pa_nil))))))) pa_nil)))))), ?_⟩
    refine ⟨_, rfl, x, cBa, dx, _, _, rfl, hx, e_Barred.cl, n_rows, rfl, .ref r, .ty "list", .type "list", .type "list", true, rfl, .ty _, tyx_lst hr0, kit_ty (by decide +kernel), true, rfl, iteF ?_⟩
    refine ⟨_, rfl, x, cBa, dx, _, _, rfl, hx, e_Barred.cl, n_rows, rfl, r, _, rfl, .inl hr0, ?_⟩
    refine ⟨rfl, _, rfl, ?_⟩
    have e12 : decide (V.int (((ts.map V.ref).length : Nat) : Int) = V.int 12) = decide (rs.length = 12) := by
      rw [List.length_map, len]
      exact decide_eq_decide.mpr ⟨fun z => by have := V.int.inj z; omega, fun z => by rw [z]; rfl⟩
    by_cases h12 : rs.length = 12
    case neg =>
      rw [e12, decide_eq_false h12]
      refine iteT ?_
      have q0 := q H (Kx.refl H)
      rw [show barredB m ws rs = false by unfold barredB; rw [decide_eq_false h12]; rfl] at q0
      exact q0
    rw [e12, decide_eq_true h12]
    refine iteF ?_
    obtain ⟨⟨us, hl, ht⟩, h80, ok, al⟩ := id hw
    refine ⟨_, rfl, l, us, ws, rfl, hl, ht, by omega, al, fun H1 d kvs k1 nd1 hd1 ha1 => ?_⟩
    have hx1 := k1.o _ _ hx fun ps z => nomatch z
    have hr1 := k1.l hr0
    have hrs1 := hrs.k k1
    have hm1 := hm.k k1
    refine ⟨_, rfl, x, cBa, dx, _, _, rfl, hx1, e_Barred.cl, n_rows, rfl, r, _, rfl, hr1, fun D1 nD1 => ?_⟩
    refine lc_enumF (fun i => V.bl (barsB m (fun x => ansW ws x (i : Nat)) (rs.getD i []))) (by rw [List.length_map, len]; omega) hr1 nD1 (fun _ _ => rfl) (fun i v Tp H3 hv k3 nT Q' hq => ?_) fun H3 k3 hD1 => ?_
    · obtain ⟨t, ht, rfl⟩ : ∃ t, ts[i]? = some t ∧ V.ref t = v := by
        rw [List.getElem?_map] at hv
        exact Option.map_eq_some_iff.mp hv
      obtain ⟨ns, hns, hsq, hle⟩ := paired_at hrs1 ht
      have k4 : Kx H3 (upd H3 Tp (.tup [.int (i : Nat), .ref t])) := Kx.new nT
      have k34 := k3.trans k4
      refine ⟨_, rfl, _, rfl, _, rfl, _, rfl, t, a, d, (i : Nat), m, kvs, ansW ws, ns, rfl, hm1.k k34, mok, k34.dt hd1, ha1, k34.l hsq, by omega, fun H4 k5 => ?_⟩
      have q0 := hq H4 k5
      rw [show rs.getD i [] = ns by rw [List.getD_eq_getElem?_getD, hns] <;> rfl] at q0
      exact q0
    · rw [show ((List.range (ts.map V.ref).length).map fun i => V.bl (barsB m (fun x => ansW ws x (i : Nat)) (rs.getD i []))) = ((List.range rs.length).map fun i => barsB m (fun x => ansW ws x (i : Nat)) (rs.getD i [])).map V.bl by rw [List.length_map, len, List.map_map] <;> rfl] at hD1
      refine ⟨D1, _, rfl, sq_of hD1, ?_⟩
      have q0 := q H3 (k1.trans k3)
      rw [show barredB m ws rs = (((List.range rs.length).map fun i => barsB m (fun x => ansW ws x (i : Nat)) (rs.getD i [])).all id) by unfold barredB; rw [decide_eq_true h12, Bool.true_and, List.all_map] <;> rfl] at q0
      exact q0
end
end CH
end

section
set_option Elab.async false
set_option linter.all false
set_option maxRecDepth 100000
set_option maxHeartbeats 4000000
namespace CH
open PySem PySem.Spec PyProof.Rows L2
open GxR (TabB TabG Tabbed)
section
variable {P : Program} {w : World} {K : PySem.W.Frag} {mg : Str → Option Value} {base : Heap} {c aA cc cm : Addr}
abbrev st_law_bars : Stmt := top 25
abbrev nm_law_bars : List Str := ["_law_answers_here", "_law_meeting_here", "_law_hour", "_law_row", "_law_people", "_law_enough", "_law_needed", "_law_one"]
theorem sc_law_bars : FnScope nm_law_bars ["_law_answers_here", "_law_meeting_here", "_law_hour", "_law_row"] (defScope st_law_bars) := C8.fnScope_by (by decide +kernel)
def sp_law_bars (K : PySem.W.Frag) : Sp := fun vs H Q _ => ∃ (d a r : Addr) (o : Int) (m : Mt) (kvs : List (List Key × V)) (f : Int → Int → Option Str) (ns : List Int), vs = [.ref d, .ref a, .int o, .ref r] ∧ MAt K H a m ∧ m.ok ∧ H d = some (.dT kvs) ∧ AnsD kvs f ∧
  SqL K H r (ns.map V.int) ∧ ns.length ≤ 4000 ∧ ∀ H' : Hp, Kx H H' → Q (.bl (barsB m (fun x => f x o) ns)) H'
theorem ok_law_bars (D : DefT K mg "_law_bars" st_law_bars c) (T : Tx K mg aA) : C8.Cal P w K mg base 1 "_law_bars" (sp_law_bars K) [] := by
  refine cal_of D sc_law_bars (fun _ _ _ _ _ _ us hl => match us, hl with | [_, _, _, _], _ => rfl) (fun vs H Q E h => ?_) (fun fa A outer s H vs Q E hr h => ?_)
  · obtain ⟨d, a, r, o, m, kvs, f, ns, rfl, _⟩ := h
    rfl
  · obtain ⟨d, a, r, o, m, kvs, f, ns, rfl, ⟨p, n, ha, hp, hn⟩, mok, hd, hf, hrr, h4, q⟩ := h
    have nd := sc_law_bars.nd
    have hu := hu_of hr
    refine ⟨_, (pss_cons (ps_asg (pv 1) (pg_tup (by rfl) (pgs_cons (pg_name (i := 4) nd rfl (Or.inr rfl)) (pgs_cons (pg_name (i := 5) nd rfl (Or.inl rfl)) (pgs_cons (pg_name (i := 6) nd rfl (Or.inr rfl)) pgs_nil)))))
      (pss_cons (ps_if (PW.pt (pw_or (pt_cmpR op_lt (pe_lenSetG (by rfl) T.z_len (by rfl) T.z_set (pv 3)) (pe_callB call_len_seq (by rfl) T.z_len PySem.boot_len (pa_cons (pv 3) pa_nil)) (nomark _)) (pw_or1 (pt_val (pe_callB (cr_any rfl) (by rfl) T.z_any (by decide +kernel) (pa_cons (pe_lc (own := [("_law_one", 7)]) (g := gName 7) (tt := tYes) (by rfl) nd (pi_list (pv 3)) (blkOk_by (own := [("_law_one", 7)]) (N := nm_law_bars) (sc := defScope st_law_bars) (by decide +kernel)) (fun _ _ _ _ _ => pg_name (i := 7) nd rfl (Or.inl rfl)) (fun _ _ _ _ _ => pts_nil) (fun _ _ _ _ _ => (pe_cmpR (show OpR _ (compareOp .NotIn) (rIn K true) from op_notIn_seq) (pv 7) (pv 4) (by rfl)))) pa_nil)))))) (pss_one (ps_ret pe_bl)) pss_nil)
      (pss_cons (ps_if (pt_val (pe_callB (cr_any rfl) (by rfl) T.z_any (by decide +kernel) (pa_cons (pe_lc (own := [("_law_one", 7)]) (g := gName 7) (tt := tYes) (by rfl) nd (pi_list (pv 3)) (blkOk_by (own := [("_law_one", 7)]) (N := nm_law_bars) (sc := defScope st_law_bars) (by decide +kernel)) (fun _ _ _ _ _ => pg_name (i := 7) nd rfl (Or.inl rfl)) (fun _ _ _ _ _ => pts_nil) (fun _ _ _ _ _ => (pe_cmpR op_eq (pe_dget2 hu (pv 0) (pe_tup (pa_cons (pv 7) (pa_cons (pv 2) pa_nil))) pe_str ⟨rfl, rfl, rfl, rfl⟩) pe_str (nomark _)))) pa_nil))) (pss_one (ps_ret pe_bl)) pss_nil)
      (pss_one (ps_ret (pe_or (pe_cmpR op_gt (pe_callB call_len_seq (by rfl) T.z_len PySem.boot_len (pa_cons (pv 3) pa_nil)) (pe_op op_sub (pe_callB call_len_seq (by rfl) T.z_len PySem.boot_len (pa_cons (pv 4) pa_nil)) (pv 5)) (nomark _)) (pe_one (pe_callB (cr_any rfl) (by rfl) T.z_any (by decide +kernel) (pa_cons (pe_lc (own := [("_law_one", 7)]) (g := gName 7) (tt := tYes) (by rfl) nd (pi_list (pv 3)) (blkOk_by (own := [("_law_one", 7)]) (N := nm_law_bars) (sc := defScope st_law_bars) (by decide +kernel)) (fun _ _ _ _ _ => pg_name (i := 7) nd rfl (Or.inl rfl)) (fun _ _ _ _ _ => pts_nil) (fun _ _ _ _ _ => (pe_cmpR (show OpR _ (compareOp .In) (rIn K false) from op_in_seq) (pv 7) (pv 6) (by rfl)))) pa_nil))))))))), ?_⟩
    refine ⟨_, rfl, a, _, rfl, ha, rfl, _, _, rfl, _, _, rfl, _, _, rfl, rfl, ?_⟩
    have hn0 := dis_le ns
    have hnd := dis_eq ns
    refine ⟨_, rfl, r, ns, rfl, hrr, h4, ?_⟩
    refine ⟨_, rfl, r, _, rfl, .inl hrr, _, _, rfl, rfl, _, rfl, ?_⟩
    rw [List.length_map]
    by_cases dn : ns.Nodup
    case neg =>
      have e : decide ((dis ns : Int) < (ns.length : Int)) = true := decide_eq_true (by
        have : dis ns ≠ ns.length := fun z => dn (hnd.mp z)
        omega)
      rw [e]
      refine iteT (iteT ?_)
      have q0 := q H (Kx.refl H)
      have eb : barsB m (fun x => f x o) ns = false := by
        unfold barsB
        rw [decide_eq_false dn]
        rfl
      rw [eb] at q0
      exact q0
    have e : decide ((dis ns : Int) < (ns.length : Int)) = false := decide_eq_false (by
      have := hnd.mpr dn
      omega)
    rw [e]
    refine iteF ?_
    -- one who is not of the people
    refine ⟨_, rfl, r, rfl, ⟨_, hrr⟩, fun D1 nD1 => ?_⟩
    refine lc_bools (fun x => !decide (x ∈ m.ps)) hrr nD1 h4 (fun x => rfl) (fun x H3 hx k3 Q' hq => ?_) fun H3 k3 hD1 => ?_
    · refine ⟨_, rfl, _, rfl, p, _, rfl, .inr (k3.t hp), rfl, flat_int _, ?_⟩
      rw [if_pos rfl, inV_int]
      exact hq H3 (Kx.refl H3)
    refine ⟨D1, _, rfl, sq_of hD1, _, rfl, ?_⟩
    rw [any_map]
    by_cases b1 : (ns.any fun x => !decide (x ∈ m.ps)) = true
    · rw [b1]
      refine iteT ?_
      have q0 := q H3 k3
      have eb : barsB m (fun x => f x o) ns = false := by
        unfold barsB
        obtain ⟨x, hx, z⟩ := List.any_eq_true.mp b1
        have : (ns.all fun x => decide (x ∈ m.ps)) = false := by
          rw [List.all_eq_false]
          exact ⟨x, hx, by simpa using z⟩
        rw [this, Bool.and_false, Bool.false_and, Bool.false_and]
      rw [eb] at q0
      exact q0
    rw [Bool.eq_false_iff.mpr b1]
    refine iteF ?_
    have allp : (ns.all fun x => decide (x ∈ m.ps)) = true := by
      rw [List.all_eq_true]
      intro x hx
      refine Classical.byContradiction fun z => b1 (List.any_eq_true.mpr ⟨x, hx, ?_⟩)
      rw [Bool.eq_false_iff.mpr z]
      rfl
    -- one who says yes
    have hrr3 := k3.l hrr
    refine ⟨_, rfl, r, rfl, ⟨_, hrr3⟩, fun D2 nD2 => ?_⟩
    refine lc_bools (fun x => decide ((f x o).getD "no" = "yes")) hrr3 nD2 h4 (fun x => rfl) (fun x H4 hx k4 Q' hq => ?_) fun H4 k4 hD2 => ?_
    · refine ⟨_, rfl, d, rfl, .inr ⟨_, .inl ((k3.trans k4).dt hd)⟩, _, rfl, _, rfl, (by show 2 ≤ sizeLine; decide), fun k nk => ?_⟩
      have k5 : Kx H4 (upd H4 k (.tup [.int x, .int o])) := Kx.new nk
      refine ⟨_, DGet.t (k := kPO x o) (((k3.trans k4).trans k5).dt hd) upd_same, ?_⟩
      rw [hf x o]
      have e2 : ((f x o).map V.str).getD (.str "no") = .str ((f x o).getD "no") := by cases f x o <;> rfl
      rw [e2]
      refine ⟨rfl, ?_⟩
      rw [show decide (V.str ((f x o).getD "no") = V.str "yes") = decide ((f x o).getD "no" = "yes") from decide_eq_decide.mpr ⟨fun z => V.str.inj z, fun z => by rw [z]⟩]
      exact hq _ k5
    refine ⟨D2, _, rfl, sq_of hD2, _, rfl, ?_⟩
    rw [any_map]
    have k34 := k3.trans k4
    by_cases b2 : (ns.any fun x => decide ((f x o).getD "no" = "yes")) = true
    · rw [b2]
      refine iteT ?_
      have q0 := q H4 k34
      have eb : barsB m (fun x => f x o) ns = false := by
        unfold barsB
        obtain ⟨x, hx, z⟩ := List.any_eq_true.mp b2
        have : (ns.all fun x => !decide ((f x o).getD "no" = "yes")) = false := by
          rw [List.all_eq_false]
          exact ⟨x, hx, by simpa using z⟩
        rw [this, Bool.and_false, Bool.false_and]
      rw [eb] at q0
      exact q0
    rw [Bool.eq_false_iff.mpr b2]
    refine iteF ?_
    have ally : (ns.all fun x => !decide ((f x o).getD "no" = "yes")) = true := by
      rw [List.all_eq_true]
      intro x hx
      refine Classical.byContradiction fun z => b2 (List.any_eq_true.mpr ⟨x, hx, ?_⟩)
      simpa using z
    have eb : barsB m (fun x => f x o) ns = (decide ((m.ps.length : Int) - m.e < (ns.length : Int)) || ns.any fun x => decide (x ∈ m.nds)) := by
      unfold barsB
      rw [decide_eq_true dn, allp, ally]
      rfl
    rw [eb] at q
    -- more than could be spared, or one who is needed
    refine ⟨_, rfl, r, _, rfl, .inl (k34.l hrr), _, rfl, p, _, rfl, .inr (k34.t hp), _, rfl, _, _, rfl, rfl, _, _, rfl, rfl, _, rfl, ?_⟩
    rw [List.length_map, List.length_map]
    by_cases b3 : (m.ps.length : Int) - m.e < (ns.length : Int)
    · rw [decide_eq_true b3] at q ⊢
      refine iteT ?_
      exact q H4 k34
    rw [decide_eq_false b3] at q ⊢
    refine iteF ?_
    have hrr4 := k34.l hrr
    refine ⟨_, rfl, r, rfl, ⟨_, hrr4⟩, fun D3 nD3 => ?_⟩
    refine lc_bools (fun x => decide (x ∈ m.nds)) hrr4 nD3 h4 (fun x => rfl) (fun x H5 hx k5 Q' hq => ?_) fun H5 k5 hD3 => ?_
    · refine ⟨_, rfl, _, rfl, n, _, rfl, .inr ((k34.trans k5).t hn), rfl, flat_int _, ?_⟩
      rw [if_neg Bool.false_ne_true, inV_int]
      exact hq H5 (Kx.refl H5)
    refine ⟨D3, _, rfl, sq_of hD3, ?_⟩
    rw [any_map]
    exact q H5 (k34.trans k5)
end
end CH
end

section
set_option Elab.async false
set_option linter.all false
set_option maxRecDepth 100000
set_option maxHeartbeats 4000000
namespace CH
open PySem PySem.Spec PyProof.Rows L2
/-- a number drawn from the script, by the turn -/
theorem drawn {K K1 K2 : PySem.W.Frag} {i0 i1 i4 : Nat} {σ : L2.St} {H : Hp} {Q : VK} {a : Addr} {ns : List Int} {j wh : Int} (e1 : K1 = K) (e2 : K2 = K) (h0 : σ[i0]? = some (some (.ref a))) (h4 : σ[i4]? = some (some (.int j))) (h1 : σ[i1]? = some (some (.int wh))) (ha : SqL K H a (ns.map V.int)) (hb : ∀ z ∈ ns, Bits z 1100000) (j0 : 0 ≤ j) (j1 : j ≤ 1000)
    (q : ∀ (n : Int) (H' : Hp), 0 ≤ n → Kx H H' → Q (.int n) H') :
    tOp (rI CDiv fun i j => V.int (i / j)) (tCB (fun xs H Q => ∃ i, xs = [V.int i] ∧ Q (V.int (if i < 0 then -i else i)) H) (tCons (tCall sp_law_number [] C8.E0 (tCons (tIf (tTest (tOp (rNeD K1) (tVar i0) (tLst tNil)))
      (tOp (rIxL K1) (tVar i0) (tOp (rI (fun x j => 0 < j) fun i j => V.int (i % j)) (tVar i4) (tCB (fun xs H_1 Q => ∃ p ys, xs = [V.ref p] ∧ (SqL K2 H_1 p ys ∨ SqT K2 H_1 p ys) ∧ Q (V.int (ys.length : Int)) H_1) (tCons (tVar i0) tNil)))) (tC (.int 5)))
      (tCons (tOp (rI0 fun i j => V.int (i + j)) (tVar i4) (tC (.int 40))) (tCons (tVar i1) tNil)))) tNil)) (tC (.int 3)) σ H Q := by
  subst e1 e2
  refine ⟨_, h0, Nat.zero_le _, fun z nz => ?_⟩
  have kz : Kx H (upd H z (.lst [])) := Kx.new nz
  have hz : (upd H z (.lst [])) z = some (.lst (([] : List Int).map V.int)) := upd_same
  generalize upd H z (.lst []) = H7 at kz hz ⊢
  refine ⟨isD ns, isD [], isD_dp (kz.l ha), isD_dp (sq_of hz), isD_sh ns, isD_sh [], _, rfl, ?_⟩
  rw [isD_eqv]
  by_cases e : ns = []
  · rw [decide_eq_true e]
    refine iteF ?_
    refine ⟨_, h4, _, _, rfl, rfl, _, h1, 5, _, _, rfl, (Bits.of (by decide) (by decide) : Bits 5 10).mono (by decide), by omega, by omega, fun rr => ⟨_, rfl, _, _, rfl, rfl, ⟨by decide, by decide⟩, ?_⟩⟩
    exact q _ _ (Int.ediv_nonneg (abs_nn rr) (by decide)) kz
  · rw [decide_eq_false e]
    have hlen : (0 : Int) < ((ns.map V.int).length : Int) := by
      rw [List.length_map]
      have := List.length_pos_iff.mpr e
      omega
    have m0 := Int.emod_nonneg j (show ((ns.map V.int).length : Int) ≠ 0 by omega)
    have m1 := Int.emod_lt_of_pos j hlen
    obtain ⟨cv, hcv, hcm⟩ := at_small (xs := ns.map V.int) m0 m1
    obtain ⟨ce, hce, rfl⟩ := List.mem_map.mp hcm
    refine iteT ⟨_, h0, _, h4, _, h0, a, _, rfl, .inl (kz.l ha), _, _, rfl, rfl, hlen, a, _, _, _, rfl, rfl, kz.l ha, hcv, ?_⟩
    refine ⟨_, h4, _, _, rfl, rfl, _, h1, ce, _, _, rfl, (hb ce hce).mono (by decide), by omega, by omega, fun rr => ⟨_, rfl, _, _, rfl, rfl, ⟨by decide, by decide⟩, ?_⟩⟩
    exact q _ _ (Int.ediv_nonneg (abs_nn rr) (by decide)) kz
end CH
end

section
set_option Elab.async false
set_option linter.all false
set_option maxRecDepth 100000
set_option maxHeartbeats 4000000
namespace CH
open PySem PySem.Spec PyProof.Rows L2
open GxR (TabB TabG Tabbed)
section
variable {P : Program} {w : World} {K : PySem.W.Frag} {mg : Str → Option Value} {base : Heap} {c aA cc cm cAt cBa cAn : Addr}
abbrev st_law_says : Stmt := top 26
abbrev nm_law_says : List Str := ["_law_said", "_law_due"]
theorem sc_law_says : FnScope nm_law_says ["_law_said", "_law_due"] (defScope st_law_says) := C8.fnScope_by (by decide +kernel)
def sp_law_says : Sp := fun vs H Q _ => ∃ (a b : Bool), vs = [.bl a, .bl b] ∧ Q (.bl (decide (a = b))) H
theorem ok_law_says (D : DefT K mg "_law_says" st_law_says c) (T : Tx K mg aA) : C8.Cal P w K mg base 1 "_law_says" sp_law_says [] := by
  refine cal_of D sc_law_says (fun _ _ _ _ _ _ us hl => match us, hl with | [_, _], _ => rfl) (fun vs H Q E h => ?_) (fun f A outer s H vs Q E hr h => ?_)
  · obtain ⟨a, b, rfl, _⟩ := h
    rfl
  · obtain ⟨a, b, rfl, q⟩ := h
    have nd := sc_law_says.nd
    refine ⟨_, (pss_one (ps_ret (pe_and (pe_callB call_isi (by rfl) T.z_isinstance (by decide +kernel) (pa_cons (pv 0) (pa_cons (pe_bltn (v := .ty "bool") (by rfl) T.z_bool (by decide +kernel) rfl) pa_nil))) (pe_one (pe_cmpR op_eq (pv 0) (pv 1) (nomark _)))))), ?_⟩
    refine ⟨_, rfl, .bl a, .ty "bool", .type "bool", .type "bool", true, rfl, .ty _, .base (.bl a), kit_ty (by decide +kernel), true, rfl, iteT ?_⟩
    refine ⟨_, rfl, _, rfl, rfl, ?_⟩
    rw [show decide (V.bl a = V.bl b) = decide (a = b) from decide_eq_decide.mpr ⟨fun z => V.bl.inj z, fun z => by rw [z]⟩]
    exact q
end
end CH
end

section
set_option Elab.async false
set_option linter.all false
set_option maxRecDepth 100000
set_option maxHeartbeats 4000000
namespace CH
open PySem PySem.Spec PyProof.Rows L2
open GxR (TabB TabG Tabbed)
section
variable {P : Program} {w : World} {K : PySem.W.Frag} {mg : Str → Option Value} {base : Heap} {c aA cc cm cAt cBa cAn : Addr}
abbrev st_law_barred_right : Stmt := top 27
abbrev nm_law_barred_right : List Str := ["_law_words_here", "_law_meeting_here", "_law_rows", "_law_handed", "_law_row", "_law_built", "_law_answers_here", "_law_due", "_law_hour"]
theorem sc_law_barred_right : FnScope nm_law_barred_right ["_law_words_here", "_law_meeting_here", "_law_rows"] (defScope st_law_barred_right) := C8.fnScope_by (by decide +kernel)
def sp_law_barred_right (K : PySem.W.Frag) : Sp := fun vs H Q _ => ∃ (l a r : Addr) (ws : List Wd) (m : Mt) (ts : List Addr) (rs : List (List Int)), vs = [.ref l, .ref a, .ref r] ∧ Words K H l ws ∧ MAt K H a m ∧ m.ok ∧ SqL K H r (ts.map V.ref) ∧ RowsIn K H ts rs ∧ rs.length ≤ 100 ∧ (∀ x ∈ rs, x.length ≤ 900) ∧ ∀ H' : Hp, Kx H H' → Q (.bl true) H'
theorem ok_law_barred_right (D : DefT K mg "_law_barred_right" st_law_barred_right c) (T : Tx K mg aA) (e_Barred : Own K mg "Barred" cBa) (e_Answer : Own K mg "Answer" cAn) (n_rows : NoAttr K cBa "rows") (i1 : PySem.W.kitOne K (.ref cBa) (.ref cAn) = some true)
    (f__law_answers : C8.Cal P w K mg base 1 "_law_answers" (sp_law_answers K) []) (f__law_bars : C8.Cal P w K mg base 1 "_law_bars" (sp_law_bars K) []) (f__law_says : C8.Cal P w K mg base 1 "_law_says" sp_law_says [])
    (k_Barred : C8.Mak P w K mg base 2 "Barred" cBa (sp_Barred_init K cBa) []) (m_Barred_shows : C8.Met P w K mg base 4 cBa "shows" (sp_Barred_shows K cBa) []) : C8.Cal P w K mg base 9 "_law_barred_right" (sp_law_barred_right K) [] := by
  refine cal_of D sc_law_barred_right (fun _ _ _ _ _ _ us hl => match us, hl with | [_, _, _], _ => rfl) (fun vs H Q E h => ?_) (fun f A outer s H vs Q E hr h => ?_)
  · obtain ⟨l, a, r, ws, m, ts, rs, rfl, _⟩ := h
    rfl
  · obtain ⟨l, a, r, ws, m, ts, rs, rfl, hw, hm, mok, hr0, hrs, lrs, l900, q⟩ := h
    have nd := sc_law_barred_right.nd
    have len := paired_len hrs
    refine ⟨_, (pss_cons (ps_setLc (i := 3) (own := [("_law_row", 4)]) (g := gName 4) (tt := tYes) (by rfl) nd rfl rfl (sw_true rfl rfl rfl (by decide +kernel)) (pi_list (pv 2)) (blkOk_by (own := [("_law_row", 4)]) (N := nm_law_barred_right) (sc := defScope st_law_barred_right) (by decide +kernel)) (fun _ _ _ _ _ => pg_name (i := 4) nd rfl (Or.inl rfl)) (fun _ _ _ _ _ => pts_nil) (fun _ _ _ _ _ => (pe_callTy (show CallR _ (.type "list") (rListOf K) from call_list_of) (by rfl) T.z_list (by decide +kernel) (pa_cons (pv 4) pa_nil))))
      (pss_cons (ps_set (i := 5) nd rfl (Or.inl rfl) (C8.pe_mk k_Barred hr (by first | decide | exact hkp) (by rfl) (pa_cons (pv 3) pa_nil)))
      (pss_cons (ps_for PassesOwn.never rfl (pi_list (pv 3)) (pg_name (i := 4) nd rfl (Or.inl rfl)) (pss_one (ps_expr (pe_bm PySem.F.plainAttrs_list PySem.F.slot_list_append PySem.F.type_list_append mt_append (pv 4) (pa_cons pe_int pa_nil)))))
      (pss_cons (ps_expr (pe_bm PySem.F.plainAttrs_list PySem.F.slot_list_append PySem.F.type_list_append mt_append (pv 3) (pa_cons (pe_lst pa_nil) pa_nil)))
      (pss_cons (ps_if (PW.pt (pw_or (pt_cmpR (op_neD hr.units) (pe_fld (pv 5) rfl) (pv 2) (nomark _)) (pw_or1 (pt_not (pt_val (pe_callB call_isi (by rfl) T.z_isinstance (by decide +kernel) (pa_cons (pv 5) (pa_cons (C8.pe_gc (by rfl) e_Answer.cv) pa_nil)))))))) (pss_one (ps_ret pe_bl)) pss_nil)
      (pss_cons (ps_set (i := 6) nd rfl (Or.inl rfl) (C8.pe_c f__law_answers hr (by decide) (by rfl) (pa_cons (pv 0) pa_nil)))
      (pss_cons (ps_set (i := 7) nd rfl (Or.inl rfl) (pe_cmpR op_eq (pe_callB call_len_seq (by rfl) T.z_len PySem.boot_len (pa_cons (pv 2) pa_nil)) pe_int (nomark _)))
      (pss_cons (ps_for PassesOwn.never rfl (pi_enum (by rfl) T.z_enumerate (pa_cons (pv 2) pa_nil)) (pg_tup (by rfl) (pgs_cons (pg_name (i := 8) nd rfl (Or.inl rfl)) (pgs_cons (pg_name (i := 4) nd rfl (Or.inl rfl)) pgs_nil))) (pss_one (ps_set (i := 7) nd rfl (Or.inl rfl) (pe_and (pv 7) (pe_one (C8.pe_c f__law_bars hr (by decide) (by rfl) (pa_cons (pv 6) (pa_cons (pv 1) (pa_cons (pv 8) (pa_cons (pv 4) pa_nil))))))))))
      (pss_one (ps_ret (C8.pe_c f__law_says hr (by decide) (by rfl) (pa_cons (C8.pe_mt m_Barred_shows hr (by first | decide | exact hkp) (pv 5) (pa_cons (pv 0) (pa_cons (pv 1) pa_nil))) (pa_cons (pv 7) pa_nil))))))))))))), ?_⟩
    -- handed
    refine ⟨_, rfl, r, rfl, ⟨_, hr0⟩, fun hd nhd => ?_⟩
    refine lc_copies (K := K) rfl hr0 hrs nhd (by omega) (fun _ => rfl) (fun _ => rfl) fun H3 us k3 hd3 hus nus fus => ?_
    refine ⟨_, rfl, fun x dx nx ndx nxx => ?_⟩
    refine ⟨H3, x, dx, hd, us, rs, rfl, rfl, nx, ndx, nxx, sq_of hd3, hus.in_, by omega, fun H4 r' ts' k4 hx nr' hr' rn => ⟨rfl, ?_⟩⟩
    have lus := paired_len hus
    have k34 := k3.trans k4
    have hd4 := k4.lst hd3
    -- what was handed in is changed
    refine ⟨_, rfl, hd, rfl, ⟨_, sq_of hd4⟩, for_list (K := K) (a := hd) (xs := us.map V.ref) (fun i σ H5 => ∃ (v4 v5 v6 v7 : Option V), σ = [some (.ref l), some (.ref a), some (.ref r), some (.ref hd), v4, some (.ref x), v5, v6, v7] ∧ Kx H H5 ∧ H5 hd = some (.lst (us.map V.ref)) ∧
        H5 x = some (.ins cBa dx [("rows", .ref r')]) ∧ H5 r' = some (.lst (ts'.map V.ref)) ∧ RowsAt H5 ts' rs ∧ RowsAt H5 (us.drop i) (rs.drop i))
      ⟨none, none, none, none, rfl, k34, hd4, hx, hr', rn.at_, hus.k k4⟩ (fun i σ H5 _ ⟨_, _, _, _, _, _, h, _⟩ => sq_of h) ?_ ?_⟩
    · rintro i y σ H5 hi ⟨v4, v5, v6, v7, rfl, k5, hd5, hx5, hr5, rn5, ru5⟩
      obtain ⟨u, hu, rfl⟩ : ∃ u, us[i]? = some u ∧ V.ref u = y := by
        rw [List.getElem?_map] at hi
        exact Option.map_eq_some_iff.mp hi
      have hil : i < us.length := (List.getElem?_eq_some_iff.mp hu).1
      have eu : us.drop i = u :: us.drop (i + 1) := by
        rw [List.drop_eq_getElem_cons hil]
        congr 1
        rw [List.getElem?_eq_getElem hil] at hu
        exact Option.some.inj hu
      have hum : u ∈ us := List.mem_of_getElem? hu
      obtain ⟨nuH, nud⟩ := fus u hum
      obtain ⟨rr, hrr0, hur, hle⟩ := paired_at (x := u) (i := 0) ru5 (by rw [eu] <;> rfl)
      have hl9 : rr.length ≤ 900 := l900 rr (List.mem_of_mem_drop (List.mem_of_getElem? hrr0))
      refine ⟨_, rfl, .inl ⟨rfl, _, sq_of hur⟩, u, _, _, rfl, rfl, hur, by rw [List.length_map]; exact lt80 (by omega), ?_⟩
      have nut : ∀ t ∈ ts', t ≠ u := fun t ht z => by
        have h1 := rn.new t ht
        obtain ⟨rr', _, e2, _⟩ := paired_at hus hu
        rw [z, e2] at h1
        cases h1
      have nux : x ≠ u := fun z => by rw [z, hur] at hx5; cases hx5
      have nur : r' ≠ u := fun z => by
        obtain ⟨rr', _, e2, _⟩ := paired_at hus hu
        rw [z, e2] at nr'
        cases nr'
      refine ⟨_, _, _, _, rfl, k5.mut nuH, by rw [upd_ne nud.symm]; exact hd5, by rw [upd_ne nux]; exact hx5, by rw [upd_ne nur]; exact hr5, rn5.up nut, ?_⟩
      rw [eu] at ru5
      have nd5 : (u :: us.drop (i + 1)).Nodup := eu ▸ (List.Sublist.nodup (List.drop_sublist i us) nus)
      cases hd : rs.drop i with
      | nil => rw [hd] at ru5; cases ru5
      | cons b bs =>
        rw [hd] at ru5
        cases ru5 with
        | cons a0 b0 =>
          have eb : rs.drop (i + 1) = bs := by
            have := congrArg List.tail hd
            rw [List.tail_drop] at this
            exact this
          rw [eb]
          exact RowsAt.up b0 fun t ht z => (List.nodup_cons.mp nd5).1 (z ▸ ht)
    · rintro σ H5 ⟨v4, v5, v6, v7, rfl, k5, hd5, hx5, hr5, rn5, ru5⟩
      clear ru5
      refine ⟨_, rfl, .inl ⟨rfl, _, sq_of hd5⟩, Nat.zero_le _, fun z nz => ?_⟩
      have g1 : Kx H5 (upd H5 z (.lst [])) := Kx.new nz
      have hz : (upd H5 z (.lst [])) z = some (.lst []) := upd_same
      generalize upd H5 z (.lst []) = G1 at g1 hz ⊢
      have hd6 := g1.lst hd5
      have hx6 := g1.o _ _ hx5 fun ps z => nomatch z
      have hr6 := g1.lst hr5
      have rn6 := rn5.k g1
      have k6 := k5.trans g1
      refine ⟨hd, _, _, rfl, rfl, hd6, by rw [List.length_map]; exact lt80 (by omega), ?_⟩
      have ndx' : x ≠ hd := fun z => by rw [z, hd6] at hx6; cases hx6
      have ndr : r' ≠ hd := fun z => by rw [z, hd3] at nr'; cases nr'
      have ndt : ∀ t ∈ ts', t ≠ hd := fun t ht z => by
        have := rn.new t ht
        rw [z, hd3] at this
        cases this
      have k7 : Kx H (upd G1 hd (.lst (us.map V.ref ++ [.ref z]))) := k6.mut nhd
      have hx7 : (upd G1 hd (.lst (us.map V.ref ++ [.ref z]))) x = some (.ins cBa dx [("rows", .ref r')]) := by rw [upd_ne ndx']; exact hx6
      have hr7 : (upd G1 hd (.lst (us.map V.ref ++ [.ref z]))) r' = some (.lst (ts'.map V.ref)) := by rw [upd_ne ndr]; exact hr6
      have rn7 : RowsAt (upd G1 hd (.lst (us.map V.ref ++ [.ref z]))) ts' rs := rn6.up ndt
      generalize upd G1 hd (.lst (us.map V.ref ++ [.ref z])) = H7 at k7 hx7 hr7 rn7 ⊢
      refine ⟨_, rfl, x, cBa, dx, _, _, rfl, hx7, e_Barred.cl, n_rows, rfl, _, rfl, rsD rs, rsD rs, rsD_dp (sq_of hr7) rn7.in_, rsD_dp (k7.l hr0) (hrs.k k7), rsD_sh _, rsD_sh _, _, rfl, ?_⟩
      rw [rsD_eqv, decide_eq_true rfl]
      refine iteF ?_
      refine ⟨_, rfl, .ref x, .ref cAn, .ref cBa, .ref cAn, true, rfl, .own _, e_Barred.ty hx7, i1, true, rfl, iteF ?_⟩
      refine ⟨_, rfl, l, ws, rfl, (hw.k k7).at_, by have := hw.h80; omega, hw.ok, fun H8 d kvs k8 nd8 hd8 ha8 => ?_⟩
      have k78 := k7.trans k8
      refine ⟨_, rfl, r, _, rfl, .inl (k78.l hr0), rfl, ?_⟩
      rw [show decide (V.int (((ts.map V.ref).length : Nat) : Int) = V.int 12) = decide (rs.length = 12) by
        rw [List.length_map, len]
        exact decide_eq_decide.mpr ⟨fun z => by have := V.int.inj z; omega, fun z => by rw [z]; rfl⟩]
      have hr8 := k78.l hr0
      have hrs8 := hrs.k k78
      have hm8 := hm.k k78
      have hx8 := k8.o _ _ hx7 fun ps z => nomatch z
      have hb8 := k8.lst hr7
      have rn8 := rn7.k k8
      refine ⟨_, rfl, r, _, rfl, hr8, for_enumL (K := K) (a := r) (xs := ts.map V.ref) (fun i σ H9 => ∃ (v4 v8 : Option V), σ = [some (.ref l), some (.ref a), some (.ref r), some (.ref hd), v4, some (.ref x), some (.ref d), some (.bl (decide (rs.length = 12) && (List.range i).all fun j => barsB m (fun x => ansW ws x (j : Nat)) (rs.getD j []))), v8] ∧ Kx H8 H9)
        ⟨_, _, by rw [show ((List.range 0).all fun j => barsB m (fun x => ansW ws x (j : Nat)) (rs.getD j [])) = true from rfl, Bool.and_true] <;> rfl, Kx.refl H8⟩ (fun i σ H9 ⟨_, _, _, k⟩ => k.l hr8) ?_ ?_⟩
      · rintro i v Tp σ H9 hv ⟨v4, v8, rfl, k9⟩ nT
        obtain ⟨t, ht, rfl⟩ : ∃ t, ts[i]? = some t ∧ V.ref t = v := by
          rw [List.getElem?_map] at hv
          exact Option.map_eq_some_iff.mp hv
        obtain ⟨ns, hns, hsq, hle⟩ := paired_at hrs8 ht
        have e0 : rs.getD i [] = ns := by rw [List.getD_eq_getElem?_getD, hns] <;> rfl
        have g2 : Kx H9 (upd H9 Tp (.tup [.int (i : Nat), .ref t])) := Kx.new nT
        have hT : (upd H9 Tp (.tup [.int (i : Nat), .ref t])) Tp = some (.tup [.int (i : Nat), .ref t]) := upd_same
        generalize upd H9 Tp (.tup [.int (i : Nat), .ref t]) = G2 at g2 hT ⊢
        have k92 := k9.trans g2
        refine ⟨Tp, _, rfl, st_of hT, rfl, _, _, rfl, _, _, rfl, rfl, ?_⟩
        have ei : (decide (rs.length = 12) && (List.range (i + 1)).all fun j => barsB m (fun x => ansW ws x (j : Nat)) (rs.getD j [])) = ((decide (rs.length = 12) && (List.range i).all fun j => barsB m (fun x => ansW ws x (j : Nat)) (rs.getD j [])) && barsB m (fun x => ansW ws x (i : Nat)) ns) := by
          rw [List.range_succ, List.all_append, Bool.and_assoc, show ([i].all fun j => barsB m (fun x => ansW ws x (j : Nat)) (rs.getD j [])) = barsB m (fun x => ansW ws x (i : Nat)) ns by rw [List.all_cons, List.all_nil, Bool.and_true, e0]]
        refine ⟨_, rfl, _, rfl, ?_⟩
        cases eb : (decide (rs.length = 12) && (List.range i).all fun j => barsB m (fun x => ansW ws x (j : Nat)) (rs.getD j [])) with
        | true =>
          rw [eb] at ei
          refine iteT ⟨_, rfl, _, rfl, _, rfl, _, rfl, d, a, t, (i : Nat), m, kvs, ansW ws, ns, rfl, hm8.k k92, mok, k92.dt hd8, ha8, k92.l hsq, by omega, fun H10 k10 => ?_⟩
          refine ⟨some (.ref t), some (.int (i : Nat)), ?_, k92.trans k10⟩
          rw [ei, Bool.true_and] <;> rfl
        | false =>
          rw [eb] at ei
          refine iteF ?_
          refine ⟨some (.ref t), some (.int (i : Nat)), ?_, k92⟩
          rw [ei, Bool.false_and] <;> rfl
      · rintro σ H9 ⟨v4, v8, rfl, k9⟩
        rw [List.length_map, len]
        have k79 := k78.trans k9
        refine ⟨_, rfl, x, dx, _, rfl, k9.o _ _ hx8 (fun ps z => nomatch z), rfl, _, rfl, _, rfl, x, dx, l, a, r', ts', rs, ws, m, rfl, k9.o _ _ hx8 (fun ps z => nomatch z), sq_of (k9.lst hb8), (rn8.k k9).in_, by omega, hw.k k79, hm.k k79, mok, fun H10 k10 => ?_⟩
        refine ⟨_, rfl, _, _, rfl, ?_⟩
        rw [show decide (barredB m ws rs = (decide (rs.length = 12) && (List.range rs.length).all fun j => barsB m (fun x => ansW ws x (j : Nat)) (rs.getD j []))) = true from decide_eq_true rfl]
        exact q _ (k79.trans k10)
end
end CH
end

section
set_option Elab.async false
set_option linter.all false
set_option maxRecDepth 100000
set_option maxHeartbeats 4000000
namespace CH
open PySem PySem.Spec PyProof.Rows L2
open GxR (TabB TabG Tabbed)
section
variable {K : PySem.W.Frag} {cc cAt cBa : Addr} {σ : L2.St} {H : Hp} {Q : VK} {X : TE} {ta : TA}
/-- Barred(X).shows(..), X a list of rows -/
theorem barred_shows_of {rs : List (List Int)} {ws : List Wd} {m : Mt} (mok : m.ok) (lrs : rs.length ≤ 1000)
    (hX : ∀ Q' : VK, (∀ (H1 : Hp) (q : Addr) (ts : List Addr), Kx H H1 → SqL K H1 q (ts.map V.ref) → RowsIn K H1 ts rs → Q' (.ref q) H1) → X σ H Q')
    (ha : ∀ H', Kx H H' → ∀ Q' : List V → Hp → Prop, (∀ (H1 : Hp) (lw am : Addr), Kx H' H1 → Words K H1 lw ws → MAt K H1 am m → Q' [.ref lw, .ref am] H1) → ta σ H' Q')
    (q : ∀ H', Kx H H' → Q (.bl (barredB m ws rs)) H') : tMeth cBa "shows" (sp_Barred_shows K cBa) [] C8.E0 (tMake cBa (sp_Barred_init K cBa) [] C8.E0 (tCons X tNil)) ta σ H Q := by
  refine hX _ fun H1 l ts k1 hl hrs => ?_
  intro x dx nx ndx nxx
  refine ⟨H1, x, dx, l, ts, rs, rfl, rfl, nx, ndx, nxx, hl, hrs, lrs, fun H2 r ts' k2 hx hr0 hr rn => ⟨rfl, ?_⟩⟩
  refine ⟨x, dx, _, rfl, hx, rfl, ?_⟩
  have k02 := k1.trans k2
  refine ha H2 k02 _ fun H3 lw am k3 hw hm => ?_
  exact ⟨x, dx, lw, am, r, ts', rs, ws, m, rfl, k3.o _ _ hx (fun ps z => nomatch z), sq_of (k3.lst hr), (rn.at_.k k3).in_, lrs, hw, hm, mok, fun H4 k4 => q _ ((k02.trans k3).trans k4)⟩
theorem at_shows_of {h : Int} {ws : List Wd} {m : Mt} (mok : m.ok) (tc : TabG H cc) (hX : ∀ Q' : VK, (∀ (H1 : Hp), Kx H H1 → Q' (.int h) H1) → X σ H Q')
    (ha : ∀ H', Kx H H' → ∀ Q' : List V → Hp → Prop, (∀ (H1 : Hp) (lw am : Addr), Kx H' H1 → Words K H1 lw ws → MAt K H1 am m → Q' [.ref lw, .ref am] H1) → ta σ H' Q')
    (q : ∀ H', Kx H H' → Q (.bl (atB m ws h)) H') : tMeth cAt "shows" (sp_At_shows K cAt cc) [] C8.E0 (tMake cAt (sp_At_init cAt) [] C8.E0 (tCons X tNil)) ta σ H Q := by
  refine hX _ fun H1 k1 => ?_
  intro x dx nx ndx nxx
  refine ⟨x, dx, h, rfl, upd_same, rfl, ?_⟩
  have k2 := Kx.made (C := cAt) (fs := []) (fs' := [("hour", .int h)]) nx ndx (Kx.refl _)
  have hx : (upd (upd (upd H1 dx (.own x)) x (.ins cAt dx [])) x (.ins cAt dx [("hour", .int h)])) x = some (.ins cAt dx [("hour", .int h)]) := upd_same
  generalize upd (upd (upd H1 dx (.own x)) x (.ins cAt dx [])) x (.ins cAt dx [("hour", .int h)]) = H2 at k2 hx ⊢
  refine ⟨x, dx, _, rfl, hx, rfl, ?_⟩
  have k02 := k1.trans k2
  refine ha H2 k02 _ fun H3 lw am k3 hw hm => ?_
  exact ⟨x, dx, lw, am, h, ws, m, rfl, k3.o _ _ hx (fun ps z => nomatch z), hw, hm, mok, (k02.trans k3).g _ tc, fun H4 k4 => q _ ((k02.trans k3).trans k4)⟩
/-- written words, a written meeting -/
theorem lit_wm {ws : List Wd} {m : Mt} (h80 : ws.length ≤ 80) (ok : ∀ x ∈ ws, x.ok) (al : Alike ws) : ∀ {H' : Hp} {Q' : List V → Hp → Prop}, (∀ (H1 : Hp) (lw am : Addr), Kx H' H1 → Words K H1 lw ws → MAt K H1 am m → Q' [.ref lw, .ref am] H1) → (tCons (tLit (wordsLt ws)) (tCons (tLit m.lt) tNil)) σ H' Q' := by
  intro H' Q' q v H1 k1 l1 v2 H2 k2 l2
  obtain ⟨l, ts, rfl, hl, ht⟩ := words_lt l1
  obtain ⟨am, rfl, hm⟩ := mt_at (K := K) l2
  exact q H2 l am (k1.trans k2) ⟨⟨ts, sq_of (k2.lst hl), ht.k k2⟩, h80, ok, al⟩ hm
/-- [[..]] * n -/
theorem rep_rows {ns : List Int} {n : Nat} (hn : n ≤ 100) (ln : ns.length ≤ 1000) {Q' : VK} (q : ∀ (H1 : Hp) (q : Addr) (ts : List Addr), Kx H H1 → SqL K H1 q (ts.map V.ref) → RowsIn K H1 ts (List.replicate n ns) → Q' (.ref q) H1) :
    tOp rRep (tLit (.lst [.lst (isLt ns)])) (tC (.int (n : Int))) σ H Q' := by
  intro v H1 k1 l1
  obtain ⟨l, vs, rfl, hl, v1, ws, rfl, h1, h2⟩ := l1
  obtain ⟨t, rfl, ht⟩ := intsL h1
  rw [show ws = [] from h2] at hl
  refine ⟨l, _, _, rfl, rfl, hl, by omega, by omega, by show 1 * n ≤ sizeLine; exact small80 (by omega), fun p np => ?_⟩
  have e : (List.replicate ((n : Int).toNat) [V.ref t]).flatten = (List.replicate n t).map V.ref := by
    rw [Int.toNat_natCast, List.map_replicate, List.flatten_replicate_singleton]
  rw [e]
  have k2 := Kx.new (u := .lst ((List.replicate n t).map V.ref)) np
  exact q _ p _ (k1.trans k2) (sq_of upd_same) (RowsIn.rep (sq_of (k2.lst ht)) ln n)
end
end CH
end

section
set_option Elab.async false
set_option linter.all false
set_option maxRecDepth 100000
set_option maxHeartbeats 4000000
namespace CH
open PySem PySem.Spec PyProof.Rows L2
open GxR (TabB TabG Tabbed)
def hourEs : List Int := ((List.range 16).map fun i : Nat => (-2 : Int) + (i : Int)) ++ [10 ^ 20]
def x1W : List Wd := [⟨1, 0, 7, 3, "yes"⟩]
def x1M : Mt := ⟨[7], 1, []⟩
def x2W : List Wd := [⟨1, 0, 7, 5, "maybe"⟩, ⟨1, 1, 6, 5, "yes"⟩]
def x2M : Mt := ⟨[6, 7], 1, [7]⟩
theorem x1W_ok : ∀ x ∈ x1W, x.ok := by
  intro x hx
  unfold x1W at hx
  simp only [List.mem_cons, List.not_mem_nil, or_false] at hx
  unfold Wd.ok
  rcases hx with rfl
  exact ⟨by decide, by decide, by decide, by decide, by decide, by decide, by decide, by decide, by decide⟩
theorem x2W_ok : ∀ x ∈ x2W, x.ok := by
  intro x hx
  unfold x2W at hx
  simp only [List.mem_cons, List.not_mem_nil, or_false] at hx
  unfold Wd.ok
  rcases hx with rfl | rfl <;> exact ⟨by decide, by decide, by decide, by decide, by decide, by decide, by decide, by decide, by decide⟩
theorem x1W_al : Alike x1W := by
  unfold Alike x1W
  decide +kernel
theorem x2W_al : Alike x2W := by
  unfold Alike x2W
  decide +kernel
theorem x1M_ok : x1M.ok := ⟨⟨by decide, by decide, trivial⟩, trivial, by decide, by decide, by decide⟩
theorem x2M_ok : x2M.ok := ⟨⟨by decide, by decide, by decide, by decide, trivial⟩, ⟨by decide, by decide, trivial⟩, by decide, by decide, by decide⟩
section
variable {P : Program} {w : World} {K : PySem.W.Frag} {mg : Str → Option Value} {base : Heap} {c aA cc cm cAt cBa : Addr}
abbrev st_law : Stmt := top 28
abbrev nm_law : List Str := ["_law_script", "_law_whole", "_law_by", "_law_words_here", "_law_answers_here", "_law_turn", "_law_number_here", "_law_meeting_here", "_law_can", "_law_hour", "_law_due", "_law_rows", "_law_one", "_law_tried", "_law_spot", "_law_here", "_law_row", "_law_less", "_law_each", "_law_some", "_law_maybe"]
theorem sc_law : FnScope nm_law ["_law_script"] (defScope st_law) := C8.fnScope_by (by decide +kernel)
def sp_law (K : PySem.W.Frag) (cc : Addr) : Sp := fun vs H Q _ => ∃ (a : Addr) (ns : List Int), vs = [.ref a] ∧ SqL K H a (ns.map V.int) ∧ ns.length ≤ 63 ∧ (∀ z ∈ ns, Bits z 1100000) ∧ TabG H cc ∧ ∀ H' : Hp, Q (.bl true) H'
theorem ok_law (T : Tx K mg aA) (e_At : Own K mg "At" cAt) (e_Barred : Own K mg "Barred" cBa) (n_hour : NoAttr K cAt "hour") (n_rows : NoAttr K cBa "rows")
    (f__law_number : C8.Cal P w K mg base 1 "_law_number" sp_law_number []) (f__law_words : C8.Cal P w K mg base 2 "_law_words" (sp_law_words K) []) (f__law_meeting : C8.Cal P w K mg base 1 "_law_meeting" (sp_law_meeting K) [])
    (f__law_answers : C8.Cal P w K mg base 1 "_law_answers" (sp_law_answers K) []) (f__law_hours : C8.Cal P w K mg base 1 "_law_hours" (sp_law_hours K) []) (f__law_says : C8.Cal P w K mg base 1 "_law_says" sp_law_says [])
    (f__law_barred_right : C8.Cal P w K mg base 9 "_law_barred_right" (sp_law_barred_right K) []) (k_At : C8.Mak P w K mg base 2 "At" cAt (sp_At_init cAt) []) (m_At_shows : C8.Met P w K mg base 4 cAt "shows" (sp_At_shows K cAt cc) [])
    (k_Barred : C8.Mak P w K mg base 2 "Barred" cBa (sp_Barred_init K cBa) []) (m_Barred_shows : C8.Met P w K mg base 4 cBa "shows" (sp_Barred_shows K cBa) [])
    {fa : Addr} {A : Around} {outer : List Env} {s : Shared} {H : Hp} {vs : List V} {Q : VK} {E : XK} (hr : Room 9 (A.deeper (envOfC "law" (defScope st_law) s.heap.objs.size fa (.ref c)))) (h : sp_law K cc vs H Q E) :
    ∃ t, PSs (cxOf CX0 P w K mg base nm_law "law" (defScope st_law) fa (.ref c) A outer s H E).nox (defBody st_law) t ∧ t { nx := fun _ H' => Q .non H', rt := Q } (L2.start nm_law vs) H := by
  obtain ⟨a, ns, rfl, ha, h63, hb, tc, q⟩ := h
  have nd := sc_law.nd
  have hu := hu_of hr
  refine ⟨_, (pss_cons (ps_set (i := 1) nd rfl (Or.inl rfl) (pe_callB call_abs (by rfl) T.z_abs (by decide +kernel) (pa_cons (pe_callB (cr_sum rfl) (by rfl) T.z_sum (by decide +kernel) (pa_cons (pe_slice sl_list (pv 0) po_none (po_some pe_int)) pa_nil)) pa_nil)))
      (pss_cons (ps_for PassesOwn.never rfl (pi_list (pe_lst (pa_cons pe_int (pa_cons pe_int pa_nil)))) (pg_name (i := 2) nd rfl (Or.inl rfl)) (pss_cons (ps_set (i := 3) nd rfl (Or.inr rfl) (C8.pe_c f__law_words hr (by decide) (by rfl) (pa_cons (pv 0) (pa_cons (pv 2) (pa_cons pe_int pa_nil)))))
      (pss_cons (ps_set (i := 4) nd rfl (Or.inr rfl) (C8.pe_c f__law_answers hr (by decide) (by rfl) (pa_cons (pv 3) pa_nil)))
      (pss_one (ps_for PassesOwn.never rfl (pi_range1 (by rfl) T.z_range (pa_cons pe_int pa_nil)) (pg_name (i := 5) nd rfl (Or.inl rfl)) (pss_cons (ps_set (i := 6) nd rfl (Or.inl rfl) (pe_op op_fdiv (pe_callB call_abs (by rfl) T.z_abs (by decide +kernel) (pa_cons (C8.pe_c f__law_number hr (by decide) (by rfl) (pa_cons (pe_ifExp (pt_cmpR (op_neD hr.units) (pv 0) (pe_lst pa_nil) (nomark _)) (pe_ix ix_list (pv 0) (pe_op op_mod (pv 5) (pe_callB call_len_seq (by rfl) T.z_len PySem.boot_len (pa_cons (pv 0) pa_nil))) (fun _ _ => rfl)) pe_int) (pa_cons (pe_op op_add (pv 5) pe_int) (pa_cons (pv 1) pa_nil)))) pa_nil)) pe_int))
      (pss_cons (ps_set (i := 7) nd rfl (Or.inr rfl) (C8.pe_c f__law_meeting hr (by decide) (by rfl) (pa_cons (pv 6) pa_nil)))
      (pss_cons (ps_set (i := 8) nd rfl (Or.inl rfl) (C8.pe_c f__law_hours hr (by decide) (by rfl) (pa_cons (pv 4) (pa_cons (pv 7) (pa_cons (pe_tup (pa_cons pe_str pa_nil)) pa_nil)))))
      (pss_cons (ps_for PassesOwn.never rfl (pi_list (pe_op op_cat (pe_listRg (by rfl) (by rfl) T.z_list (prg_2 (by rfl) T.z_range (pe_un un_neg pe_int) pe_int)) (pe_lst (pa_cons (pe_op op_pow pe_int pe_int) pa_nil)))) (pg_name (i := 9) nd rfl (Or.inr rfl)) (pss_cons (ps_set (i := 10) nd rfl (Or.inl rfl) (pe_cmpR (op_eqD hr.units) (pe_slice sl_list (pv 8) po_none (po_some pe_int)) (pe_lst (pa_cons (pv 9) pa_nil)) (nomark _)))
      (pss_one (ps_if (PW.pt (pw_or (pt_cmpR op_ne (pe_fld (C8.pe_mk k_At hr (by first | decide | exact hkp) (by rfl) (pa_cons (pv 9) pa_nil)) rfl) (pv 9) (nomark _)) (pw_or1 (pt_not (pt_val (C8.pe_c f__law_says hr (by decide) (by rfl) (pa_cons (C8.pe_mt m_At_shows hr (by first | decide | exact hkp) (C8.pe_mk k_At hr (by first | decide | exact hkp) (by rfl) (pa_cons (pv 9) pa_nil)) (pa_cons (pv 3) (pa_cons (pv 7) pa_nil))) (pa_cons (pv 10) pa_nil)))))))) (pss_one (ps_ret pe_bl)) pss_nil))))
      (pss_cons (ps_set (i := 11) nd rfl (Or.inl rfl) (pe_lst pa_nil))
      (pss_cons (ps_for PassesOwn.never rfl (pi_range1 (by rfl) T.z_range (pa_cons pe_int pa_nil)) (pg_name (i := 9) nd rfl (Or.inr rfl)) (pss_one (ps_expr (pe_bm PySem.F.plainAttrs_list PySem.F.slot_list_append PySem.F.type_list_append mt_append (pv 11) (pa_cons (pe_lc (own := [("_law_one", 12)]) (g := gName 12) (by rfl) nd (pi_tup (pe_ix ix_tup (pv 7) pe_int (fun _ _ => rfl))) (blkOk_by (own := [("_law_one", 12)]) (N := nm_law) (sc := defScope st_law) (by decide +kernel)) (fun _ _ _ _ _ => pg_name (i := 12) nd rfl (Or.inl rfl)) (fun _ _ _ _ _ => pts_one (pt_cmpR op_ne (pe_dget2 hu (pv 4) (pe_tup (pa_cons (pv 12) (pa_cons (pv 9) pa_nil))) pe_str ⟨rfl, rfl, rfl, rfl⟩) pe_str (nomark _))) (fun _ _ _ _ _ => (pv 12))) pa_nil)))))
      (pss_cons (ps_par (i := 13) (j := 14) (by rfl) nd rfl rfl (by decide) rfl rfl (pa_cons (pe_lst (pa_cons (pv 11) (pa_cons (pe_slice sl_list (pv 11) (po_some pe_int) po_none) (pa_cons (pe_op op_cat (pv 11) (pl_lst (pls_cons (pl_lst pls_nil) pls_nil))) (pa_cons (pe_revL (pv 11)) (pa_cons (pe_op op_rep (pl_lst (pls_cons (pl_lst pls_nil) pls_nil)) pe_int) pa_nil)))))) (pa_cons (pe_op op_mod (pe_op op_fdiv (pv 1) pe_int) pe_int) pa_nil)) (by rfl))
      (pss_cons (ps_set (i := 15) nd rfl (Or.inl rfl) (pe_ix ix_list (pv 11) (pv 14) (fun _ _ => rfl)))
      (pss_cons (ps_for PassesOwn.never rfl (pi_list (pe_lst (pa_cons (pe_slice sl_list (pv 15) (po_some pe_int) po_none) (pa_cons (pe_revL (pv 15)) (pa_cons (pe_op op_rep (pv 15) pe_int) (pa_cons (pe_lst pa_nil) (pa_cons (pe_lst (pa_cons (pe_un un_neg pe_int) pa_nil)) (pa_cons (pe_op op_cat (pv 15) (pe_lst (pa_cons pe_int pa_nil))) (pa_cons (pe_callTy call_list_of (by rfl) T.z_list (by decide +kernel) (pa_cons (pe_ix ix_tup (pv 7) pe_int (fun _ _ => rfl)) pa_nil)) pa_nil))))))))) (pg_name (i := 16) nd rfl (Or.inl rfl)) (pss_one (ps_expr (pe_bm PySem.F.plainAttrs_list PySem.F.slot_list_append PySem.F.type_list_append mt_append (pv 13) (pa_cons (pe_op op_cat (pe_op op_cat (pe_slice sl_list (pv 11) po_none (po_some (pv 14))) (pe_lst (pa_cons (pv 16) pa_nil))) (pe_slice sl_list (pv 11) (po_some (pe_op op_add (pv 14) pe_int)) po_none)) pa_nil)))))
      (pss_cons (ps_for PassesOwn.never rfl (pi_range1 (by rfl) T.z_range (pa_cons pe_int pa_nil)) (pg_name (i := 12) nd rfl (Or.inr rfl)) (pss_cons (ps_setLc (i := 17) (own := [("_law_each", 18)]) (g := gName 18) (by rfl) nd rfl rfl (sw_true rfl rfl rfl (by decide +kernel)) (pi_list (pe_ix ix_list (pv 11) (pv 14) (fun _ _ => rfl))) (blkOk_by (own := [("_law_each", 18)]) (N := nm_law) (sc := defScope st_law) (by decide +kernel)) (fun _ _ _ _ _ => pg_name (i := 18) nd rfl (Or.inl rfl)) (fun _ _ _ _ _ => pts_one (pt_cmpR op_ne (pv 18) (pv 12) (nomark _))) (fun _ _ _ _ _ => (pv 18)))
      (pss_cons (ps_expr (pe_bm PySem.F.plainAttrs_list PySem.F.slot_list_append PySem.F.type_list_append mt_append (pv 13) (pa_cons (pe_op op_cat (pe_op op_cat (pe_slice sl_list (pv 11) po_none (po_some (pv 14))) (pe_lst (pa_cons (pe_op op_cat (pv 17) (pe_lst (pa_cons (pv 12) pa_nil))) pa_nil))) (pe_slice sl_list (pv 11) (po_some (pe_op op_add (pv 14) pe_int)) po_none)) pa_nil)))
      (pss_one (ps_expr (pe_bm PySem.F.plainAttrs_list PySem.F.slot_list_append PySem.F.type_list_append mt_append (pv 13) (pa_cons (pe_op op_cat (pe_op op_cat (pe_slice sl_list (pv 11) po_none (po_some (pv 14))) (pe_lst (pa_cons (pe_lst (pa_cons (pv 12) pa_nil)) pa_nil))) (pe_slice sl_list (pv 11) (po_some (pe_op op_add (pv 14) pe_int)) po_none)) pa_nil)))))))
      (pss_one (ps_if (pt_not (pt_val (pe_callB (cr_all rfl) (by rfl) T.z_all (by decide +kernel) (pa_cons (pe_lc (own := [("_law_some", 19)]) (g := gName 19) (tt := tYes) (by rfl) nd (pi_list (pv 13)) (blkOk_by (own := [("_law_some", 19)]) (N := nm_law) (sc := defScope st_law) (by decide +kernel)) (fun _ _ _ _ _ => pg_name (i := 19) nd rfl (Or.inl rfl)) (fun _ _ _ _ _ => pts_nil) (fun _ _ _ _ _ => (C8.pe_c f__law_barred_right hr (by decide) (by rfl) (pa_cons (pv 3) (pa_cons (pv 7) (pa_cons (pv 19) pa_nil)))))) pa_nil)))) (pss_one (ps_ret pe_bl)) pss_nil)))))))))))))))))
      (pss_cons (ps_if (pt_cmpR op_notBl (C8.pe_mt m_At_shows hr (by first | decide | exact hkp) (C8.pe_mk k_At hr (by first | decide | exact hkp) (by rfl) (pa_cons pe_int pa_nil)) (pa_cons (pl_lst (pls_cons (pl_tup (pls_cons pl_int (pls_cons pl_int (pls_cons pl_int (pls_cons pl_int (pls_cons pl_str pls_nil)))))) pls_nil)) (pa_cons (pl_tup (pls_cons (pl_tup (pls_cons pl_int pls_nil)) (pls_cons pl_int (pls_cons (pl_tup pls_nil) pls_nil)))) pa_nil))) pe_bl (nomark _)) (pss_one (ps_ret pe_bl)) pss_nil)
      (pss_cons (ps_set (i := 20) nd rfl (Or.inl rfl) (pl_lst (pls_cons (pl_tup (pls_cons pl_int (pls_cons pl_int (pls_cons pl_int (pls_cons pl_int (pls_cons pl_str pls_nil)))))) (pls_cons (pl_tup (pls_cons pl_int (pls_cons pl_int (pls_cons pl_int (pls_cons pl_int (pls_cons pl_str pls_nil)))))) pls_nil))))
      (pss_cons (ps_if (pt_cmpR op_notBl (C8.pe_mt m_Barred_shows hr (by first | decide | exact hkp) (C8.pe_mk k_Barred hr (by first | decide | exact hkp) (by rfl) (pa_cons (pe_op op_rep (pl_lst (pls_cons (pl_lst (pls_cons pl_int pls_nil)) pls_nil)) pe_int) pa_nil)) (pa_cons (pv 20) (pa_cons (pl_tup (pls_cons (pl_tup (pls_cons pl_int (pls_cons pl_int pls_nil))) (pls_cons pl_int (pls_cons (pl_tup (pls_cons pl_int pls_nil)) pls_nil)))) pa_nil))) pe_bl (nomark _)) (pss_one (ps_ret pe_bl)) pss_nil)
      (pss_cons (ps_if (pt_val (C8.pe_mt m_Barred_shows hr (by first | decide | exact hkp) (C8.pe_mk k_Barred hr (by first | decide | exact hkp) (by rfl) (pa_cons (pe_op op_rep (pl_lst (pls_cons (pl_lst (pls_cons pl_int (pls_cons pl_int pls_nil))) pls_nil)) pe_int) pa_nil)) (pa_cons (pv 20) (pa_cons (pl_tup (pls_cons (pl_tup (pls_cons pl_int (pls_cons pl_int pls_nil))) (pls_cons pl_int (pls_cons (pl_tup (pls_cons pl_int pls_nil)) pls_nil)))) pa_nil)))) (pss_one (ps_ret pe_bl)) pss_nil)
      (pss_one (ps_ret (pe_cmpR (op_eqD hr.units) (pe_lc (own := [("_law_one", 12)]) (g := gName 12) (tt := tYes) (by rfl) nd (pi_tup (pe_tup (pa_cons pe_int (pa_cons pe_int pa_nil)))) (blkOk_by (own := [("_law_one", 12)]) (N := nm_law) (sc := defScope st_law) (by decide +kernel)) (fun _ _ _ _ _ => pg_name (i := 12) nd rfl (Or.inl rfl)) (fun _ _ _ _ _ => pts_nil) (fun _ _ _ _ _ => (C8.pe_mt m_Barred_shows hr (by first | decide | exact hkp) (C8.pe_mk k_Barred hr (by first | decide | exact hkp) (by rfl) (pa_cons (pe_op op_rep (pe_lst (pa_cons (pe_lst (pa_cons (pv 12) pa_nil)) pa_nil)) pe_int) pa_nil)) (pa_cons (pe_lst pa_nil) (pa_cons (pl_tup (pls_cons (pl_tup (pls_cons pl_int (pls_cons pl_int pls_nil))) (pls_cons pl_int (pls_cons (pl_tup (pls_cons pl_int pls_nil)) pls_nil)))) pa_nil))))) (pe_lst (pa_cons pe_bl (pa_cons pe_bl pa_nil))) (nomark _)))))))))), ?_⟩
  refine ⟨_, rfl, 63, rfl, a, _, rfl, ha, fun p np => ?_⟩
  rw [cut63 h63]
  have k1 : Kx H (upd H p (.lst (ns.map V.int))) := Kx.new np
  have hp : (upd H p (.lst (ns.map V.int))) p = some (.lst (ns.map V.int)) := upd_same
  generalize upd H p (.lst (ns.map V.int)) = H1 at k1 hp ⊢
  refine ⟨p, ns, rfl, sq_of hp, _, rfl, ?_⟩
  dsimp (config := { proj := false, failIfUnchanged := false }) only
  generalize (if ns.sum < 0 then -ns.sum else ns.sum) = wh
  refine ⟨(by show 2 ≤ sizeLine; decide), fun q3 nq3 => ?_⟩
  have eq3 : ([.int 0, .int 1] : List V) = [0, 1].map V.int := rfl
  rw [eq3]
  have k2 : Kx H1 (upd H1 q3 (.lst ([0, 1].map V.int))) := Kx.new nq3
  have hq3 : (upd H1 q3 (.lst ([0, 1].map V.int))) q3 = some (.lst ([0, 1].map V.int)) := upd_same
  generalize upd H1 q3 (.lst ([0, 1].map V.int)) = H2 at k2 hq3 ⊢
  have k02 := k1.trans k2
  refine ⟨q3, rfl, ⟨_, sq_of hq3⟩, for_list (K := K) (a := q3) (xs := [0, 1].map V.int) (fun i σ Hx => ∃ (v2 v3 v4 v5 v6 v7 v8 v9 v10 v11 v12 v13 v14 v15 v16 v17 v18 v19 : Option V), σ = [some (.ref a), some (.int wh), v2, v3, v4, v5, v6, v7, v8, v9, v10, v11, v12, v13, v14, v15, v16, v17, v18, v19, none] ∧ Kx H2 Hx)
    ⟨none, none, none, none, none, none, none, none, none, none, none, none, none, none, none, none, none, none, rfl, Kx.refl H2⟩ (fun i σ Hx _ h => by obtain ⟨_, _, _, _, _, _, _, _, _, _, _, _, _, _, _, _, _, _, _, kx⟩ := h; exact kx.l (sq_of hq3)) ?_ ?_⟩
  · rintro i y σ Hx hi ⟨v2, v3, v4, v5, v6, v7, v8, v9, v10, v11, v12, v13, v14, v15, v16, v17, v18, v19, rfl, kx⟩
    obtain ⟨b, hb3, rfl⟩ : ∃ b, ([0, 1] : List Int)[i]? = some b ∧ V.int b = y := by
      rw [List.getElem?_map] at hi
      exact Option.map_eq_some_iff.mp hi
    have hbm := List.mem_of_getElem? hb3
    simp only [List.mem_cons, List.not_mem_nil, or_false] at hbm
    have k03 := k02.trans kx
    refine ⟨_, rfl, _, rfl, a, ns, b, 24, rfl, k03.l ha, h63, hb, by omega, by omega, by decide, fun H5 r ts ws k5 nr hr5 ht5 h24 ok5 df5 => ?_⟩
    have k04 := k03.trans k5
    have len5 := paired_len ht5
    have al5 : Alike ws := df5.alike
    refine ⟨_, rfl, r, ws, rfl, ⟨ts, sq_of hr5, ht5.w⟩, by omega, ok5, fun H6 d kvs k6 nd6 hd6 hA6 => ?_⟩
    have k05 := k04.trans k6
    have hr6 := k6.lst hr5
    have ht6 := ht5.k k6
    have mk6 : ∀ {Hz : Hp}, Kx H6 Hz → Words K Hz r ws := fun k => ⟨⟨ts, sq_of (k.lst hr6), ht6.k k⟩, by omega, ok5, al5⟩
    refine ⟨3, rfl, by decide, by decide, for_range (lo := 0) (n := 3) (fun j σ Hy => ∃ (v5 v6 v7 v8 v9 v10 v11 v12 v13 v14 v15 v16 v17 v18 v19 : Option V), σ = [some (.ref a), some (.int wh), some (.int b), some (.ref r), some (.ref d), v5, v6, v7, v8, v9, v10, v11, v12, v13, v14, v15, v16, v17, v18, v19, none] ∧ Kx H6 Hy)
      ⟨v5, v6, v7, v8, v9, v10, v11, v12, v13, v14, v15, v16, v17, v18, v19, rfl, Kx.refl H6⟩ ?_ ?_⟩
    · rintro j σ Hy hj ⟨v5, v6, v7, v8, v9, v10, v11, v12, v13, v14, v15, v16, v17, v18, v19, rfl, ky⟩
      have ha6 := (k05.trans ky).l ha
      refine drawn (K := K) (j := 0 + (j : Int)) (wh := wh) rfl rfl ?f0 ?f4 ?f1 ha6 hb (by omega) (by omega) fun n H7 n0 k7 => ?_
      case f0 => rfl
      case f4 => rfl
      case f1 => rfl
      refine ⟨_, rfl, n, rfl, n0, fun H8 am m k8 hm mok => ?_⟩
      have k68 := (ky.trans k7).trans k8
      refine ⟨_, rfl, _, rfl, by decide, fun p2 np2 => ?_⟩
      have g1 : Kx H8 (upd H8 p2 (.tup [.str "yes"])) := Kx.new np2
      have hp2 : (upd H8 p2 (.tup [.str "yes"])) p2 = some (.tup [.str "yes"]) := upd_same
      generalize upd H8 p2 (.tup [.str "yes"]) = G1 at g1 hp2 ⊢
      refine ⟨d, am, p2, m, kvs, ansW ws, ["yes"], rfl, hm.k g1, mok, (k68.trans g1).dt hd6, hA6, st_of hp2, fun G2 cn g2 ncn hcn => ?_⟩
      have k6G := (k68.trans g1).trans g2
      have hm2 := hm.k (g1.trans g2)
      -- each hour
      refine ⟨2, rfl, _, _, rfl, rfl, ⟨by decide, by decide, by decide, by decide, by decide⟩, fun p3 np3 => ?_⟩
      have g3 : Kx G2 (upd G2 p3 (.lst (rgV (-2) 14))) := Kx.new np3
      have hp3 : (upd G2 p3 (.lst (rgV (-2) 14))) p3 = some (.lst (rgV (-2) 14)) := upd_same
      generalize upd G2 p3 (.lst (rgV (-2) 14)) = G3 at g3 hp3 ⊢
      refine ⟨_, _, rfl, rfl, ⟨by decide, by decide, by decide⟩, (by show 1 ≤ sizeLine; decide), fun p4 np4 => ?_⟩
      have g4 : Kx G3 (upd G3 p4 (.lst [.int (10 ^ (20 : Int).toNat)])) := Kx.new np4
      have hp4 : (upd G3 p4 (.lst [.int (10 ^ (20 : Int).toNat)])) p4 = some (.lst [.int (10 ^ (20 : Int).toNat)]) := upd_same
      generalize upd G3 p4 (.lst [.int (10 ^ (20 : Int).toNat)]) = G4 at g4 hp4 ⊢
      refine ⟨p3, p4, _, _, rfl, rfl, g4.lst hp3, hp4, by decide, fun p5 np5 => ?_⟩
      have ees : rgV (-2) 14 ++ [.int (10 ^ (20 : Int).toNat)] = hourEs.map V.int := rfl
      rw [ees]
      have g5 : Kx G4 (upd G4 p5 (.lst (hourEs.map V.int))) := Kx.new np5
      have hp5 : (upd G4 p5 (.lst (hourEs.map V.int))) p5 = some (.lst (hourEs.map V.int)) := upd_same
      generalize upd G4 p5 (.lst (hourEs.map V.int)) = G5 at g5 hp5 ⊢
      have g25 := (g3.trans g4).trans g5
      have hcn5 := g25.lst hcn
      have k6G5 := k6G.trans g25
      have hm5 := hm2.k g25
      refine ⟨p5, rfl, ⟨_, sq_of hp5⟩, for_list (K := K) (a := p5) (xs := hourEs.map V.int) (fun i σ Hz => ∃ (v9 v10 : Option V), σ = [some (.ref a), some (.int wh), some (.int b), some (.ref r), some (.ref d), some (.int (0 + (j : Int))), some (.int n), some (.ref am), some (.ref cn), v9, v10, v11, v12, v13, v14, v15, v16, v17, v18, v19, none] ∧ Kx G5 Hz)
        ⟨v9, v10, rfl, Kx.refl G5⟩ (fun i σ Hz _ ⟨_, _, _, k⟩ => k.l (sq_of hp5)) ?_ ?_⟩
      · rintro i y σ Hz hi ⟨w9, w10, rfl, kz⟩
        obtain ⟨h, hh, rfl⟩ : ∃ h, hourEs[i]? = some h ∧ V.int h = y := by
          rw [List.getElem?_map] at hi
          exact Option.map_eq_some_iff.mp hi
        refine ⟨_, rfl, 1, rfl, cn, _, rfl, sq_of (kz.lst hcn5), fun p6 np6 => ?_⟩
        rw [show (some (1 : Int)) = some ((1 : Nat) : Int) from rfl, cutV_take, ← List.map_take, show (hoursL m ["yes"] fun x o => (ansW ws x o).getD "no") = hoursL m ["yes"] (ansF ws) from rfl]
        have u1 : Kx Hz (upd Hz p6 (.lst (((hoursL m ["yes"] (ansF ws)).take 1).map V.int))) := Kx.new np6
        have hp6 : (upd Hz p6 (.lst (((hoursL m ["yes"] (ansF ws)).take 1).map V.int))) p6 = some (.lst (((hoursL m ["yes"] (ansF ws)).take 1).map V.int)) := upd_same
        generalize upd Hz p6 (.lst (((hoursL m ["yes"] (ansF ws)).take 1).map V.int)) = U1 at u1 hp6 ⊢
        refine ⟨_, rfl, (by show 1 ≤ sizeLine; decide), fun p7 np7 => ?_⟩
        have u2 : Kx U1 (upd U1 p7 (.lst [.int h])) := Kx.new np7
        have hp7 : (upd U1 p7 (.lst [.int h])) p7 = some (.lst [.int h]) := upd_same
        generalize upd U1 p7 (.lst [.int h]) = U2 at u2 hp7 ⊢
        refine ⟨isD _, isD [h], isD_dp (sq_of (u2.lst hp6)), isD_dp (ns := [h]) (sq_of hp7), isD_sh _, isD_sh _, ?_⟩
        rw [isD_eqv, show decide ((hoursL m ["yes"] (ansF ws)).take 1 = [h]) = atB m ws h from rfl]
        have u02 := (kz.trans u1).trans u2
        refine ⟨_, rfl, fun x1 dx1 nx1 ndx1 nxx1 => ?_⟩
        refine ⟨x1, dx1, h, rfl, upd_same, rfl, ?_⟩
        have u3 := Kx.made (C := cAt) (fs := []) (fs' := [("hour", .int h)]) nx1 ndx1 (Kx.refl _)
        refine ⟨x1, cAt, dx1, _, _, rfl, upd_same, e_At.cl, n_hour, rfl, _, rfl, rfl, _, rfl, ?_⟩
        rw [decide_eq_true rfl]
        refine iteF ?_
        generalize upd (upd (upd U2 dx1 (.own x1)) x1 (.ins cAt dx1 [])) x1 (.ins cAt dx1 [("hour", .int h)]) = U3 at u3 ⊢
        refine ⟨_, rfl, fun x2 dx2 nx2 ndx2 nxx2 => ?_⟩
        refine ⟨x2, dx2, h, rfl, upd_same, rfl, ?_⟩
        have u4 := Kx.made (C := cAt) (fs := []) (fs' := [("hour", .int h)]) nx2 ndx2 (Kx.refl _)
        have hx2 : (upd (upd (upd U3 dx2 (.own x2)) x2 (.ins cAt dx2 [])) x2 (.ins cAt dx2 [("hour", .int h)])) x2 = some (.ins cAt dx2 [("hour", .int h)]) := upd_same
        generalize upd (upd (upd U3 dx2 (.own x2)) x2 (.ins cAt dx2 [])) x2 (.ins cAt dx2 [("hour", .int h)]) = U4 at u4 hx2 ⊢
        have u04 := (u02.trans u3).trans u4
        refine ⟨x2, dx2, _, rfl, hx2, rfl, _, rfl, _, rfl, x2, dx2, r, am, h, ws, m, rfl, hx2, mk6 (k6G5.trans u04), hm5.k u04, mok, ((k05.trans k6G5).trans u04).g _ tc, fun U5 u5 => ?_⟩
        refine ⟨_, rfl, _, _, rfl, ?_⟩
        rw [decide_eq_true rfl]
        exact ⟨true, rfl, iteF ⟨_, _, rfl, u04.trans u5⟩⟩
      · rintro σ Hz ⟨w9, w10, rfl, kz⟩
        -- the rows
        have k6z := k6G5.trans kz
        have hmz := hm5.k kz
        obtain ⟨pp, pn, hma, hmp, hmn⟩ := id hmz
        refine ⟨Nat.zero_le _, fun R nR => ?_⟩
        have e1 : Kx Hz (upd Hz R (.lst [])) := Kx.new nR
        have hR : (upd Hz R (.lst [])) R = some (.lst []) := upd_same
        generalize upd Hz R (.lst []) = E1 at e1 hR ⊢
        refine ⟨12, rfl, by decide, by decide, for_range (lo := 0) (n := 12) (fun i σ E2 => ∃ (v9 v12 : Option V) (us : List Addr), σ = [some (.ref a), some (.int wh), some (.int b), some (.ref r), some (.ref d), some (.int (0 + (j : Int))), some (.int n), some (.ref am), some (.ref cn), v9, w10, some (.ref R), v12, v13, v14, v15, v16, v17, v18, v19, none] ∧ Kx Hz E2 ∧
            E2 R = some (.lst (us.map V.ref)) ∧ RowsAt E2 us ((List.range i).map fun o => notYes m fun x => ansW ws x (o : Nat)) ∧ (∀ t ∈ us, t ≠ R) ∧ us.length = i)
          ⟨w9, v12, [], rfl, e1, hR, .nil, fun t h => absurd h (by simp), rfl⟩ ?_ ?_⟩
        · rintro i σ E2 hi ⟨w9, w12, us, rfl, k2, hR2, hus, hne, lus⟩
          refine ⟨_, rfl, .inl ⟨rfl, _, sq_of hR2⟩, _, rfl, am, _, 0, .ref pp, rfl, rfl, k2.t hma, rfl, pp, rfl, ⟨_, k2.t hmp⟩, fun D0 nD => ?_⟩
          refine lc_tup (K := K) (a := pp) (xs := m.ps.map V.int) (fun j E3 => Kx E2 E3 ∧ E3 D0 = some (.lst (((m.ps.take j).filter fun x => !decide ((ansW ws x (i : Nat)).getD "no" = "yes")).map V.int)))
            ⟨Kx.new nD, upd_same⟩ (fun j E3 _ h => (k2.trans h.1).t hmp) ?_ ?_
          · rintro j y E3 hj ⟨k3, hD3⟩
            obtain ⟨x, hx, rfl⟩ : ∃ x, m.ps[j]? = some x ∧ V.int x = y := by
              rw [List.getElem?_map] at hj
              exact Option.map_eq_some_iff.mp hj
            have e1 : m.ps.take (j + 1) = m.ps.take j ++ [x] := by rw [List.take_add_one, hx] <;> rfl
            have k63 := (k6z.trans k2).trans k3
            refine ⟨rfl, _, rfl, d, rfl, .inr ⟨_, .inl (k63.dt hd6)⟩, _, rfl, _, rfl, (by show 2 ≤ sizeLine; decide), fun kk nk => ?_⟩
            rw [show (0 : Int) + (i : Int) = ((i : Nat) : Int) from Int.zero_add _]
            have k4 : Kx E3 (upd E3 kk (.tup [.int x, .int ((i : Nat) : Int)])) := Kx.new nk
            refine ⟨_, DGet.t (k := kPO x (i : Nat)) ((k63.trans k4).dt hd6) upd_same, ?_⟩
            rw [hA6 x (i : Nat)]
            have e2 : ((ansW ws x (i : Nat)).map V.str).getD (.str "no") = .str ((ansW ws x (i : Nat)).getD "no") := by cases ansW ws x (i : Nat) <;> rfl
            rw [e2]
            refine ⟨rfl, _, rfl, ?_⟩
            rw [show (!decide (V.str ((ansW ws x (i : Nat)).getD "no") = V.str "yes")) = !decide ((ansW ws x (i : Nat)).getD "no" = "yes") by
              rw [show decide (V.str ((ansW ws x (i : Nat)).getD "no") = V.str "yes") = decide ((ansW ws x (i : Nat)).getD "no" = "yes") from decide_eq_decide.mpr ⟨fun z => V.str.inj z, fun z => by rw [z]⟩]]
            have hD4 := k4.lst hD3
            refine iteB (fun z => ?_) (fun z => ?_)
            · refine ⟨_, rfl, _, hD4, ?_, (k3.trans k4).mut nD, ?_⟩
              · rw [List.length_map]
                refine lt80 (Nat.lt_of_le_of_lt (List.length_filter_le _ _) ?_)
                rw [List.length_take]
                have := rise_len8 mok.p
                omega
              · rw [upd_same, e1, filter_snoc, if_pos (by exact z), List.map_append] <;> rfl
            · refine ⟨k3.trans k4, ?_⟩
              rw [e1, filter_snoc, if_neg (by rw [z]; exact Bool.false_ne_true), List.append_nil]
              exact hD4
          · rintro E3 ⟨k3, hD3⟩
            rw [List.length_map, List.take_length] at hD3
            have hR3 := k3.lst hR2
            have nDR : D0 ≠ R := fun z => by rw [z, hR2] at nD; cases nD
            refine ⟨R, _, _, rfl, rfl, hR3, by rw [List.length_map]; exact lt80 (by omega), ?_⟩
            refine ⟨_, _, us ++ [D0], rfl, (k2.trans k3).mut nR, by rw [upd_same, List.map_append] <;> rfl, ?_, fun y hy => ?_, by rw [List.length_append, lus] <;> rfl⟩
            · rw [List.range_succ, List.map_append]
              refine RowsAt.up (paired_snoc (hus.k k3) ⟨hD3, Nat.le_trans (List.length_filter_le _ _) (Nat.le_trans (rise_len8 mok.p) (by decide))⟩) fun y hy => ?_
              rcases List.mem_append.mp hy with hy | hy
              · exact hne y hy
              · rw [List.mem_singleton.mp hy]
                exact nDR
            · rcases List.mem_append.mp hy with hy | hy
              · exact hne y hy
              · rw [List.mem_singleton.mp hy]
                exact nDR
        · rintro σ E2 ⟨s9, s12, us, rfl, k2, hR2, hus, hne, lus⟩
          rw [show ((List.range 12).map fun o => notYes m fun x => ansW ws x (o : Nat)) = toldRows m ws from rfl] at hus
          have l8 : ∀ x ∈ toldRows m ws, x.length ≤ 8 := fun x hx => by
            unfold toldRows at hx
            obtain ⟨o, _, rfl⟩ := List.mem_map.mp hx
            exact Nat.le_trans (List.length_filter_le _ _) (rise_len8 mok.p)
          have lrs : (toldRows m ws).length = 12 := by unfold toldRows; rw [List.length_map, List.length_range]
          generalize toldRows m ws = rs at hus l8 lrs
          have k6e := k6z.trans k2
          have hme := hmz.k k2
          -- those tried first
          refine ⟨_, rfl, _, rfl, 1, rfl, R, _, rfl, sq_of hR2, fun t1 n1 => ?_⟩
          rw [show (some (1 : Int)) = some ((1 : Nat) : Int) from rfl, cutV_drop, ← List.map_drop]
          have f1 : Kx E2 (upd E2 t1 (.lst ((us.drop 1).map V.ref))) := Kx.new n1
          have ht1 : (upd E2 t1 (.lst ((us.drop 1).map V.ref))) t1 = some (.lst ((us.drop 1).map V.ref)) := upd_same
          generalize upd E2 t1 (.lst ((us.drop 1).map V.ref)) = F1 at f1 ht1 ⊢
          refine ⟨_, rfl, fun v F2 f2 lt2 => ?_⟩
          obtain ⟨z2, vs2, rfl, hz2, y2, ws2, rfl, ⟨b2, xs2, rfl, hb2, e2⟩, e2'⟩ := lt2
          rw [show xs2 = [] from e2] at hb2
          rw [show ws2 = [] from e2'] at hz2
          have f12 := f1.trans f2
          refine ⟨R, z2, _, _, rfl, rfl, f12.lst hR2, hz2, by rw [List.length_map]; exact small80 (by have := paired_len hus; show us.length + 1 ≤ 100000; omega), fun t3 n3 => ?_⟩
          rw [show us.map V.ref ++ [V.ref b2] = (us ++ [b2]).map V.ref by rw [List.map_append] <;> rfl]
          have f3 : Kx F2 (upd F2 t3 (.lst ((us ++ [b2]).map V.ref))) := Kx.new n3
          have ht3 : (upd F2 t3 (.lst ((us ++ [b2]).map V.ref))) t3 = some (.lst ((us ++ [b2]).map V.ref)) := upd_same
          generalize upd F2 t3 (.lst ((us ++ [b2]).map V.ref)) = F3 at f3 ht3 ⊢
          have f13 := f12.trans f3
          refine ⟨_, rfl, R, _, rfl, sq_of (f13.lst hR2), fun t4 n4 => ?_⟩
          rw [← List.map_reverse]
          have f4 : Kx F3 (upd F3 t4 (.lst (us.reverse.map V.ref))) := Kx.new n4
          have ht4 : (upd F3 t4 (.lst (us.reverse.map V.ref))) t4 = some (.lst (us.reverse.map V.ref)) := upd_same
          generalize upd F3 t4 (.lst (us.reverse.map V.ref)) = F4 at f4 ht4 ⊢
          refine fun v F5 f5 lt5 => ?_
          obtain ⟨z5, vs5, rfl, hz5, y5, ws5, rfl, ⟨b5, xs5, rfl, hb5, e5⟩, e5'⟩ := lt5
          rw [show xs5 = [] from e5] at hb5
          rw [show ws5 = [] from e5'] at hz5
          refine ⟨z5, 12, _, rfl, rfl, hz5, by decide, by decide, (by show 1 * 12 ≤ sizeLine; decide), fun t6 n6 => ?_⟩
          rw [show (List.replicate (12 : Int).toNat [V.ref b5]).flatten = (List.replicate 12 b5).map V.ref from rfl]
          have f6 : Kx F5 (upd F5 t6 (.lst ((List.replicate 12 b5).map V.ref))) := Kx.new n6
          have ht6' : (upd F5 t6 (.lst ((List.replicate 12 b5).map V.ref))) t6 = some (.lst ((List.replicate 12 b5).map V.ref)) := upd_same
          generalize upd F5 t6 (.lst ((List.replicate 12 b5).map V.ref)) = F6 at f6 ht6' ⊢
          refine ⟨(by show 5 ≤ sizeLine; decide), fun Tr nTr => ?_⟩
          rw [show ([.ref R, .ref t1, .ref t3, .ref t4, .ref t6] : List V) = [R, t1, t3, t4, t6].map V.ref from rfl]
          have f7 : Kx F6 (upd F6 Tr (.lst ([R, t1, t3, t4, t6].map V.ref))) := Kx.new nTr
          have hTr : (upd F6 Tr (.lst ([R, t1, t3, t4, t6].map V.ref))) Tr = some (.lst ([R, t1, t3, t4, t6].map V.ref)) := upd_same
          generalize upd F6 Tr (.lst ([R, t1, t3, t4, t6].map V.ref)) = F7 at f7 hTr ⊢
          have f57 := f6.trans f7
          have f47 := f5.trans f57
          have f37 := f4.trans f47
          have f27 := f3.trans f37
          have f17 := f2.trans f27
          have f07 := f1.trans f17
          have hin := (RowsAt.in_ (K := K) hus).k f07
          have lus2 := paired_len hus
          have l900 : ∀ x ∈ rs, x.length ≤ 900 := fun x hx => by have := l8 x hx; omega
          have o6 : ∀ {t : Addr} {o : HO}, F6 t = some o → t ≠ Tr := fun h e => by rw [e, nTr] at h; cases h
          have f06 := f1.trans (f2.trans (f3.trans (f4.trans (f5.trans f6))))
          have nus : ∀ t ∈ us, t ≠ Tr := fun t ht => by
            obtain ⟨i, hi⟩ := List.mem_iff_getElem?.mp ht
            obtain ⟨r', _, h1, _⟩ := paired_at (hus.k f06) hi
            exact o6 h1
          have hq0 : ∀ q ∈ [R, t1, t3, t4, t6], RsX K F7 Tr q := by
            intro q hq
            simp only [List.mem_cons, List.not_mem_nil, or_false] at hq
            rcases hq with rfl | rfl | rfl | rfl | rfl
            · exact ⟨us, rs, sq_of (f07.lst hR2), hin, by omega, l900, o6 (f06.lst hR2), nus⟩
            · exact ⟨_, rs.drop 1, sq_of (f17.lst ht1), hin.drop 1, by rw [List.length_drop]; omega, fun x hx => l900 x (List.mem_of_mem_drop hx), o6 ((f2.trans (f3.trans (f4.trans (f5.trans f6)))).lst ht1), fun t ht => nus t (List.mem_of_mem_drop ht)⟩
            · exact ⟨_, rs ++ [[]], sq_of (f37.lst ht3), hin.app (.cons ⟨sq_of (f27.lst hb2), Nat.zero_le _⟩ .nil), by rw [List.length_append]; show _ + 1 ≤ 100; omega, fun x hx => by
                rcases List.mem_append.mp hx with hx | hx
                · exact l900 x hx
                · rw [List.mem_singleton.mp hx]
                  exact Nat.zero_le _, o6 ((f4.trans (f5.trans f6)).lst ht3), fun t ht => by
                rcases List.mem_append.mp ht with ht | ht
                · exact nus t ht
                · rw [List.mem_singleton.mp ht]
                  exact o6 ((f3.trans (f4.trans (f5.trans f6))).lst hb2)⟩
            · exact ⟨_, rs.reverse, sq_of (f47.lst ht4), hin.rev, by rw [List.length_reverse]; omega, fun x hx => l900 x (List.mem_reverse.mp hx), o6 ((f5.trans f6).lst ht4), fun t ht => nus t (List.mem_reverse.mp ht)⟩
            · exact ⟨_, List.replicate 12 [], sq_of (f7.lst ht6'), RowsIn.rep (sq_of (f57.lst hb5)) (Nat.zero_le _) 12, by decide, fun x hx => by rw [List.eq_of_mem_replicate hx]; exact Nat.zero_le _, o6 ht6', fun t ht => by rw [List.eq_of_mem_replicate ht]; exact o6 (f6.lst hb5)⟩
          refine ⟨_, rfl, _, _, rfl, rfl, ⟨by decide, by decide⟩, _, _, rfl, rfl, (by show (0 : Int) < 12; decide), ?_⟩
          obtain ⟨sp, hsp, lsp⟩ : ∃ sp : Nat, wh / 3 % 12 = (sp : Int) ∧ sp < 12 := ⟨(wh / 3 % 12).toNat, by omega, by omega⟩
          refine ⟨.ref Tr, .int (sp : Int), by rw [← hsp] <;> rfl, ?_⟩
          -- the row at the spot
          have hR7 := f07.lst hR2
          have hus7 := hus.k f07
          obtain ⟨hh, hhh⟩ : ∃ hh, us[sp]? = some hh := ⟨_, List.getElem?_eq_getElem (by omega)⟩
          obtain ⟨n0s, hn0, hhl, _⟩ := paired_at hus7 hhh
          have l8n : n0s.length ≤ 8 := l8 n0s (List.mem_of_getElem? hn0)
          have hatR : atI (us.map V.ref) (sp : Int) = some (.ref hh) := atI_nat (by rw [List.getElem?_map, hhh] <;> rfl)
          refine ⟨_, rfl, _, rfl, R, _, _, .ref hh, rfl, rfl, sq_of hR7, hatR, ?_⟩
          have hm7 := hme.k f07
          obtain ⟨pp, pn, hma, hmp, hmn⟩ := id hm7
          refine ⟨_, rfl, 1, rfl, hh, _, rfl, sq_of hhl, fun a1 m1 => ?_⟩
          rw [show (some (1 : Int)) = some ((1 : Nat) : Int) from rfl, cutV_drop, ← List.map_drop]
          have w1 : Kx F7 (upd F7 a1 (.lst ((n0s.drop 1).map V.int))) := Kx.new m1
          have ha1 : (upd F7 a1 (.lst ((n0s.drop 1).map V.int))) a1 = some (.lst ((n0s.drop 1).map V.int)) := upd_same
          generalize upd F7 a1 (.lst ((n0s.drop 1).map V.int)) = W1 at w1 ha1 ⊢
          refine ⟨_, rfl, hh, _, rfl, sq_of (w1.lst hhl), fun a2 m2 => ?_⟩
          rw [← List.map_reverse]
          have w2 : Kx W1 (upd W1 a2 (.lst (n0s.reverse.map V.int))) := Kx.new m2
          have ha2 : (upd W1 a2 (.lst (n0s.reverse.map V.int))) a2 = some (.lst (n0s.reverse.map V.int)) := upd_same
          generalize upd W1 a2 (.lst (n0s.reverse.map V.int)) = W2 at w2 ha2 ⊢
          have w02 := w1.trans w2
          refine ⟨_, rfl, hh, 2, _, rfl, rfl, w02.lst hhl, by decide, by decide, by rw [List.length_map]; exact small80 (by show _ * 2 ≤ 100000; omega), fun a3 m3 => ?_⟩
          rw [show (List.replicate (2 : Int).toNat (n0s.map V.int)).flatten = (n0s ++ n0s).map V.int by
            show (List.replicate 2 (n0s.map V.int)).flatten = _
            rw [List.map_append]
            simp [List.replicate]]
          have w3 : Kx W2 (upd W2 a3 (.lst ((n0s ++ n0s).map V.int))) := Kx.new m3
          have ha3 : (upd W2 a3 (.lst ((n0s ++ n0s).map V.int))) a3 = some (.lst ((n0s ++ n0s).map V.int)) := upd_same
          generalize upd W2 a3 (.lst ((n0s ++ n0s).map V.int)) = W3 at w3 ha3 ⊢
          refine ⟨Nat.zero_le _, fun a4 m4 => ?_⟩
          have w4 : Kx W3 (upd W3 a4 (.lst [])) := Kx.new m4
          have ha4 : (upd W3 a4 (.lst [])) a4 = some (.lst []) := upd_same
          generalize upd W3 a4 (.lst []) = W4 at w4 ha4 ⊢
          refine ⟨1, rfl, (by show 1 ≤ sizeLine; decide), fun a5 m5 => ?_⟩
          have w5 : Kx W4 (upd W4 a5 (.lst [.int (-1)])) := Kx.new m5
          have ha5 : (upd W4 a5 (.lst [.int (-1)])) a5 = some (.lst [.int (-1)]) := upd_same
          generalize upd W4 a5 (.lst [.int (-1)]) = W5 at w5 ha5 ⊢
          have w05 := ((w02.trans w3).trans w4).trans w5
          refine ⟨_, rfl, (by show 1 ≤ sizeLine; decide), fun z8 mz8 => ?_⟩
          have w8 : Kx W5 (upd W5 z8 (.lst [.int 8])) := Kx.new mz8
          have hz8 : (upd W5 z8 (.lst [.int 8])) z8 = some (.lst [.int 8]) := upd_same
          generalize upd W5 z8 (.lst [.int 8]) = W8 at w8 hz8 ⊢
          refine ⟨hh, z8, _, _, rfl, rfl, (w05.trans w8).lst hhl, hz8, by rw [List.length_map]; exact small80 (by show _ + 1 ≤ 100000; omega), fun a6 m6 => ?_⟩
          rw [show n0s.map V.int ++ [V.int 8] = (n0s ++ [8]).map V.int by rw [List.map_append] <;> rfl]
          have w6 : Kx W8 (upd W8 a6 (.lst ((n0s ++ [8]).map V.int))) := Kx.new m6
          have ha6' : (upd W8 a6 (.lst ((n0s ++ [8]).map V.int))) a6 = some (.lst ((n0s ++ [8]).map V.int)) := upd_same
          generalize upd W8 a6 (.lst ((n0s ++ [8]).map V.int)) = W6 at w6 ha6' ⊢
          have w06 := (w05.trans w8).trans w6
          refine ⟨_, rfl, am, _, 2, .ref pn, rfl, rfl, w06.t hma, rfl, pn, _, rfl, .inr (w06.t hmn), fun a7 m7 => ?_⟩
          have w7 : Kx W6 (upd W6 a7 (.lst (m.nds.map V.int))) := Kx.new m7
          have ha7 : (upd W6 a7 (.lst (m.nds.map V.int))) a7 = some (.lst (m.nds.map V.int)) := upd_same
          generalize upd W6 a7 (.lst (m.nds.map V.int)) = W7 at w7 ha7 ⊢
          refine ⟨(by show 7 ≤ sizeLine; decide), fun L nL => ?_⟩
          rw [show ([.ref a1, .ref a2, .ref a3, .ref a4, .ref a5, .ref a6, .ref a7] : List V) = [a1, a2, a3, a4, a5, a6, a7].map V.ref from rfl]
          have w9 : Kx W7 (upd W7 L (.lst ([a1, a2, a3, a4, a5, a6, a7].map V.ref))) := Kx.new nL
          have hL : (upd W7 L (.lst ([a1, a2, a3, a4, a5, a6, a7].map V.ref))) L = some (.lst ([a1, a2, a3, a4, a5, a6, a7].map V.ref)) := upd_same
          generalize upd W7 L (.lst ([a1, a2, a3, a4, a5, a6, a7].map V.ref)) = W9 at w9 hL ⊢
          have w79 := w7.trans w9
          have w69 := w6.trans w79
          have w59 := w8.trans w69
          have w49 := w5.trans w59
          have w39 := w4.trans w49
          have w29 := w3.trans w39
          have w19 := w2.trans w29
          have w09 := w1.trans w19
          have nT : ∀ {G : Hp} {t : Addr}, Kx F7 G → G t = none → t ≠ Tr := fun k h e => by rw [e, k.lst hTr] at h; cases h
          have hq1 : ∀ q ∈ [a1, a2, a3, a4, a5, a6, a7], IsOk K W9 Tr q := by
            intro q hq
            simp only [List.mem_cons, List.not_mem_nil, or_false] at hq
            rcases hq with rfl | rfl | rfl | rfl | rfl | rfl | rfl
            · exact ⟨n0s.drop 1, sq_of (w19.lst ha1), by rw [List.length_drop]; omega, nT (Kx.refl _) m1⟩
            · exact ⟨n0s.reverse, sq_of (w29.lst ha2), by rw [List.length_reverse]; omega, nT w1 m2⟩
            · exact ⟨n0s ++ n0s, sq_of (w39.lst ha3), by rw [List.length_append]; omega, nT w02 m3⟩
            · exact ⟨[], sq_of (w49.lst ha4), by decide, nT (w02.trans w3) m4⟩
            · exact ⟨[-1], sq_of (w59.lst ha5), by decide, nT ((w02.trans w3).trans w4) m5⟩
            · exact ⟨n0s ++ [8], sq_of (w79.lst ha6'), by rw [List.length_append]; show _ + 1 ≤ 900; omega, nT (w05.trans w8) m6⟩
            · exact ⟨m.nds, sq_of (w9.lst ha7), by have := rise_len8 mok.n; omega, nT w06 m7⟩
          have hR9 := w09.lst hR7
          have hus9 := hus7.k w09
          have hT9 := w09.lst hTr
          have nTr9 : E2 Tr = none := ((((f1.trans f2).trans f3).trans f4).trans (f5.trans f6)).f _ nTr
          have k6W := (k6e.trans f07).trans w09
          have kEW := f07.trans w09
          refine ⟨L, rfl, ⟨_, sq_of hL⟩, for_list (K := K) (a := L) (xs := [a1, a2, a3, a4, a5, a6, a7].map V.ref) (fun i σ G => ∃ (v16 : Option V) (qs : List Addr), σ = [some (.ref a), some (.int wh), some (.int b), some (.ref r), some (.ref d), some (.int (0 + (j : Int))), some (.int n), some (.ref am), some (.ref cn), s9, w10, some (.ref R), s12, some (.ref Tr), some (.int (sp : Int)), some (.ref hh), v16, v17, v18, v19, none] ∧
              Kx E2 G ∧ G R = some (.lst (us.map V.ref)) ∧ RowsAt G us rs ∧ G L = some (.lst ([a1, a2, a3, a4, a5, a6, a7].map V.ref)) ∧ (∀ q ∈ [a1, a2, a3, a4, a5, a6, a7], IsOk K G Tr q) ∧ G Tr = some (.lst (qs.map V.ref)) ∧ qs.length ≤ 5 + i ∧ ∀ q ∈ qs, RsX K G Tr q)
            ⟨v16, [R, t1, t3, t4, t6], rfl, kEW, hR9, hus9, hL, hq1, hT9, (by show 5 ≤ 5 + 0; decide), fun q hq => (hq0 q hq).k w09⟩ ?_ ?_ ?_⟩
          · rintro i σ G _ ⟨v16, qs, _, _, _, _, h, _⟩
            exact sq_of h
          · rintro i y σ G hi ⟨v16, qs, rfl, kg, hRg, husg, hLg, hqg, hTg, lq, hqs⟩
            obtain ⟨x, hx, rfl⟩ : ∃ x, [a1, a2, a3, a4, a5, a6, a7][i]? = some x ∧ V.ref x = y := by
              rw [List.getElem?_map] at hi
              exact Option.map_eq_some_iff.mp hi
            have hil : i < 7 := (List.getElem?_eq_some_iff.mp hx).1
            have hxk := hqg x (List.mem_of_getElem? hx)
            refine ⟨_, rfl, .inl ⟨rfl, _, sq_of hTg⟩, ?_⟩
            refine put_row (K := K) (sp := sp) rfl ?r1 ?r2 hRg husg (by omega) l8 hTg nus (fun H' k' Q' hq' => ?_) fun H' p k' np rok => ?_
            case r1 => rfl
            case r2 => rfl
            · refine ⟨_, rfl, (by show 1 ≤ sizeLine; decide), fun xl nxl => ?_⟩
              have kxl := Kx.new (u := .lst [.ref x]) nxl
              exact hq' _ xl x kxl upd_same (hxk.k (k'.trans kxl))
            · have hTp := k'.lst hTg
              refine ⟨Tr, _, _, rfl, rfl, hTp, by rw [List.length_map]; exact lt80 (by omega), ?_⟩
              have nRT : R ≠ Tr := o6 (f06.lst hR2)
              have nLT : L ≠ Tr := nT (w06.trans w7) nL
              refine ⟨_, qs ++ [p], rfl, (kg.trans k').mut nTr9, by rw [upd_ne nRT]; exact k'.lst hRg, (husg.k k').up nus, by rw [upd_ne nLT]; exact k'.lst hLg, fun q hq => ((hqg q hq).k k').up, by rw [upd_same, List.map_append] <;> rfl, by rw [List.length_append]; show _ + 1 ≤ _; omega, fun q hq => ?_⟩
              rcases List.mem_append.mp hq with hq | hq
              · exact ((hqs q hq).k k').up
              · rw [List.mem_singleton.mp hq]
                exact rok.up
          · rintro σ G ⟨v16, qs, rfl, kg, hRg, husg, hLg, hqg, hTg, lq, hqs⟩
            clear hLg hqg hq1 hq0
            have nRT : R ≠ Tr := o6 (f06.lst hR2)
            refine ⟨8, rfl, by decide, by decide, for_range (lo := 0) (n := 8) (fun i σ G => ∃ (v12 v17 : Option V) (qs : List Addr), σ = [some (.ref a), some (.int wh), some (.int b), some (.ref r), some (.ref d), some (.int (0 + (j : Int))), some (.int n), some (.ref am), some (.ref cn), s9, w10, some (.ref R), v12, some (.ref Tr), some (.int (sp : Int)), some (.ref hh), v16, v17, v18, v19, none] ∧
                Kx E2 G ∧ G R = some (.lst (us.map V.ref)) ∧ RowsAt G us rs ∧ G Tr = some (.lst (qs.map V.ref)) ∧ qs.length ≤ 12 + 2 * i ∧ ∀ q ∈ qs, RsX K G Tr q)
              ⟨_, _, qs, rfl, kg, hRg, husg, hTg, (by have e7 : ([a1, a2, a3, a4, a5, a6, a7].map V.ref).length = 7 := rfl; omega), hqs⟩ ?_ ?_⟩
            · rintro i σ G hi ⟨v12, v17, qs, rfl, kg, hRg, husg, hTg, lq, hqs⟩
              obtain ⟨n0', hn0', hhg, _⟩ := paired_at husg hhh
              obtain rfl : n0s = n0' := Option.some.inj (hn0.symm.trans hn0')
              refine ⟨_, rfl, _, rfl, R, _, _, .ref hh, rfl, rfl, sq_of hRg, hatR, hh, rfl, ⟨_, sq_of hhg⟩, fun D0 nD => ?_⟩
              refine lc_list (K := K) (a := hh) (xs := n0s.map V.int) (fun j E3 => Kx G E3 ∧ E3 D0 = some (.lst (((n0s.take j).filter fun x => !decide (x = 0 + (i : Int))).map V.int)))
                ⟨Kx.new nD, upd_same⟩ (fun j E3 _ h => h.1.l (sq_of hhg)) ?_ ?_
              · rintro j y E3 hj ⟨k3, hD3⟩
                obtain ⟨x, hx, rfl⟩ : ∃ x, n0s[j]? = some x ∧ V.int x = y := by
                  rw [List.getElem?_map] at hj
                  exact Option.map_eq_some_iff.mp hj
                have e1 : n0s.take (j + 1) = n0s.take j ++ [x] := by rw [List.take_add_one, hx] <;> rfl
                refine ⟨rfl, _, rfl, _, rfl, rfl, _, rfl, ?_⟩
                rw [show (!decide (V.int x = V.int (0 + (i : Int)))) = !decide (x = 0 + (i : Int)) by
                  rw [show decide (V.int x = V.int (0 + (i : Int))) = decide (x = 0 + (i : Int)) from decide_eq_decide.mpr ⟨fun z => V.int.inj z, fun z => by rw [z]⟩]]
                refine iteB (fun z => ?_) (fun z => ?_)
                · refine ⟨_, rfl, _, hD3, ?_, k3.mut nD, ?_⟩
                  · rw [List.length_map]
                    refine lt80 (Nat.lt_of_le_of_lt (List.length_filter_le _ _) ?_)
                    rw [List.length_take]
                    omega
                  · rw [upd_same, e1, filter_snoc, if_pos (by exact z), List.map_append] <;> rfl
                · refine ⟨k3, ?_⟩
                  rw [e1, filter_snoc, if_neg (by rw [z]; exact Bool.false_ne_true), List.append_nil]
                  exact hD3
              · rintro E3 ⟨k3, hD3⟩
                rw [List.length_map, List.take_length] at hD3
                have hl3 : (n0s.filter fun x => !decide (x = 0 + (i : Int))).length ≤ 8 := Nat.le_trans (List.length_filter_le _ _) l8n
                generalize (n0s.filter fun x => !decide (x = 0 + (i : Int))) = less at hD3 hl3
                have kg3 := kg.trans k3
                have hR3 := k3.lst hRg
                have hus3 := husg.k k3
                have hT3 := k3.lst hTg
                refine ⟨_, rfl, .inl ⟨rfl, _, sq_of hT3⟩, ?_⟩
                refine put_row (K := K) (sp := sp) rfl ?r1 ?r2 hR3 hus3 (by omega) l8 hT3 nus (fun H' k' Q' hq' => ?_) fun H' p k' np rok => ?_
                case r1 => rfl
                case r2 => rfl
                · refine ⟨_, rfl, _, rfl, (by show 1 ≤ sizeLine; decide), fun z1 nz1 => ?_⟩
                  have h1 : Kx H' (upd H' z1 (.lst [.int (0 + (i : Int))])) := Kx.new nz1
                  have hz1 : (upd H' z1 (.lst [.int (0 + (i : Int))])) z1 = some (.lst [.int (0 + (i : Int))]) := upd_same
                  generalize upd H' z1 (.lst [.int (0 + (i : Int))]) = Z1 at h1 hz1 ⊢
                  refine ⟨D0, z1, _, _, rfl, rfl, (k'.trans h1).lst hD3, hz1, by rw [List.length_map]; exact small80 (by show _ + 1 ≤ 100000; omega), fun z2 nz2 => ?_⟩
                  rw [show less.map V.int ++ [V.int (0 + (i : Int))] = (less ++ [0 + (i : Int)]).map V.int by rw [List.map_append] <;> rfl]
                  have h2 : Kx Z1 (upd Z1 z2 (.lst ((less ++ [0 + (i : Int)]).map V.int))) := Kx.new nz2
                  have hz2 : (upd Z1 z2 (.lst ((less ++ [0 + (i : Int)]).map V.int))) z2 = some (.lst ((less ++ [0 + (i : Int)]).map V.int)) := upd_same
                  generalize upd Z1 z2 (.lst ((less ++ [0 + (i : Int)]).map V.int)) = Z2 at h2 hz2 ⊢
                  refine ⟨(by show 1 ≤ sizeLine; decide), fun xl nxl => ?_⟩
                  have kxl := Kx.new (u := .lst [.ref z2]) nxl
                  refine hq' _ xl z2 ((h1.trans h2).trans kxl) upd_same ⟨_, sq_of (kxl.lst hz2), by rw [List.length_append]; show _ + 1 ≤ 900; omega, fun e => ?_⟩
                  rw [e, (k'.trans h1).lst hT3] at nz2
                  cases nz2
                · refine ⟨Tr, _, _, rfl, rfl, k'.lst hT3, by rw [List.length_map]; exact lt80 (by omega), ?_⟩
                  have kgA := (kg3.trans k').mut (u := .lst (qs.map V.ref ++ [.ref p])) nTr9
                  have hRA : (upd H' Tr (.lst (qs.map V.ref ++ [.ref p]))) R = some (.lst (us.map V.ref)) := by rw [upd_ne nRT]; exact k'.lst hR3
                  have husA : RowsAt (upd H' Tr (.lst (qs.map V.ref ++ [.ref p]))) us rs := (hus3.k k').up nus
                  have hTA : (upd H' Tr (.lst (qs.map V.ref ++ [.ref p]))) Tr = some (.lst ((qs ++ [p]).map V.ref)) := by rw [upd_same, List.map_append] <;> rfl
                  have hqA : ∀ q ∈ qs ++ [p], RsX K (upd H' Tr (.lst (qs.map V.ref ++ [.ref p]))) Tr q := fun q hq => by
                    rcases List.mem_append.mp hq with hq | hq
                    · exact ((hqs q hq).k (k3.trans k')).up
                    · rw [List.mem_singleton.mp hq]
                      exact rok.up
                  generalize upd H' Tr (.lst (qs.map V.ref ++ [.ref p])) = HA at kgA hRA husA hTA hqA ⊢
                  refine ⟨_, rfl, .inl ⟨rfl, _, sq_of hTA⟩, ?_⟩
                  refine put_row (K := K) (sp := sp) rfl ?r3 ?r4 hRA husA (by omega) l8 hTA nus (fun H' k' Q' hq' => ?_) fun H' p' k' np' rok' => ?_
                  case r3 => rfl
                  case r4 => rfl
                  · refine ⟨_, rfl, (by show 1 ≤ sizeLine; decide), fun z1 nz1 => ?_⟩
                    have h1 : Kx H' (upd H' z1 (.lst [.int (0 + (i : Int))])) := Kx.new nz1
                    have hz1 : (upd H' z1 (.lst [.int (0 + (i : Int))])) z1 = some (.lst [.int (0 + (i : Int))]) := upd_same
                    generalize upd H' z1 (.lst [.int (0 + (i : Int))]) = Z1 at h1 hz1 ⊢
                    refine ⟨(by show 1 ≤ sizeLine; decide), fun xl nxl => ?_⟩
                    have kxl := Kx.new (u := .lst [.ref z1]) nxl
                    refine hq' _ xl z1 (h1.trans kxl) upd_same ⟨[0 + (i : Int)], sq_of (kxl.lst hz1), (by show 1 ≤ 900; decide), fun e => ?_⟩
                    rw [e, k'.lst hTA] at nz1
                    cases nz1
                  · refine ⟨Tr, _, _, rfl, rfl, k'.lst hTA, by rw [List.length_map, List.length_append]; exact lt80 (by show _ + 1 < 100000; omega), ?_⟩
                    refine ⟨_, _, qs ++ [p] ++ [p'], rfl, (kgA.trans k').mut nTr9, by rw [upd_ne nRT]; exact k'.lst hRA, (husA.k k').up nus, by rw [upd_same, List.map_append (l₁ := qs ++ [p])] <;> rfl, by rw [List.length_append, List.length_append]; show _ + 1 + 1 ≤ _; omega, fun q hq => ?_⟩
                    rcases List.mem_append.mp hq with hq | hq
                    · exact ((hqA q hq).k k').up
                    · rw [List.mem_singleton.mp hq]
                      exact rok'.up
            · rintro σ G ⟨v12, v17, qs, rfl, kg, hRg, husg, hTg, lq, hqs⟩
              have k6g := k6e.trans kg
              have hmg := hme.k kg
              refine ⟨_, rfl, Tr, rfl, ⟨_, sq_of hTg⟩, fun D0 nD => ?_⟩
              refine lc_list (K := K) (a := Tr) (xs := qs.map V.ref) (fun j G2 => Kx G G2 ∧ G2 D0 = some (.lst ((List.replicate j true).map V.bl)))
                ⟨Kx.new nD, upd_same⟩ (fun j G2 _ h => h.1.l (sq_of hTg)) ?_ ?_
              · rintro j y G2 hj ⟨k2, hD2⟩
                obtain ⟨x, hx, rfl⟩ : ∃ x, qs[j]? = some x ∧ V.ref x = y := by
                  rw [List.getElem?_map] at hj
                  exact Option.map_eq_some_iff.mp hj
                have hjl : j < qs.length := (List.getElem?_eq_some_iff.mp hx).1
                obtain ⟨ts', rs', h1, h2, h3, h4, _, _⟩ := (hqs x (List.mem_of_getElem? hx)).k k2
                refine ⟨rfl, _, rfl, _, rfl, _, rfl, r, am, x, ws, m, ts', rs', rfl, mk6 (k6g.trans k2), hmg.k k2, mok, h1, h2, h3, h4, fun G3 k3 => ?_⟩
                refine ⟨_, k3.lst hD2, by rw [List.length_map, List.length_replicate]; exact lt80 (by omega), (k2.trans k3).mut nD, ?_⟩
                rw [upd_same, List.replicate_succ', List.map_append] <;> rfl
              · rintro G2 ⟨k2, hD2⟩
                refine ⟨D0, _, rfl, sq_of hD2, true, ?_, iteF ?_⟩
                · rw [show ((List.replicate (qs.map V.ref).length true).all id) = true from List.all_eq_true.mpr fun x hx => by rw [List.eq_of_mem_replicate hx]; rfl]
                · exact ⟨_, _, _, _, _, _, _, _, _, _, _, _, _, _, _, rfl, k6g.trans k2⟩
    · rintro σ Hy ⟨v5, v6, v7, v8, v9, v10, v11, v12, v13, v14, v15, v16, v17, v18, v19, rfl, ky⟩
      exact ⟨_, _, _, _, _, _, _, _, _, _, _, _, _, _, _, _, _, _, rfl, ((kx.trans k5).trans k6).trans ky⟩
  · rintro σ Hx ⟨v2, v3, v4, v5, v6, v7, v8, v9, v10, v11, v12, v13, v14, v15, v16, v17, v18, v19, rfl, kx⟩
    have kx0 := k02.trans kx
    have tcx := kx0.g _ tc
    dsimp only
    show tIfS _ _ _ _ _ _
    show tTest _ _ _ _
    show tOp _ _ _ _ _ _
    show tMeth _ _ _ _ _ _ _ _ _ _
    refine at_shows_of (ws := x1W) (m := x1M) (h := 3) x1M_ok tcx ?hX1 ?ha1 fun G1 g1 => ?_
    case hX1 => exact fun Q' hq => hq Hx (Kx.refl _)
    case ha1 => exact fun H' k' Q' hq => lit_wm (by decide) x1W_ok x1W_al hq
    rw [show atB x1M x1W 3 = true by decide +kernel]
    refine ⟨true, true, rfl, rfl, false, rfl, iteF ?_⟩
    intro v G2 g2 l2
    obtain ⟨l, ts, rfl, hl, ht⟩ := words_lt (ws := x2W) l2
    have mkW : ∀ {Hz : Hp}, Kx G2 Hz → Words K Hz l x2W := fun k => ⟨⟨ts, sq_of (k.lst hl), ht.k k⟩, by decide, x2W_ok, x2W_al⟩
    have mkA : ∀ {σ : L2.St} {H' : Hp} {Q' : List V → Hp → Prop}, σ[20]? = some (some (.ref l)) → Kx G2 H' → (∀ (H1 : Hp) (lw am : Addr), Kx H' H1 → Words K H1 lw x2W → MAt K H1 am x2M → Q' [.ref lw, .ref am] H1) → (tCons (tVar 20) (tCons (tLit x2M.lt) tNil)) σ H' Q' := fun hσ k' hq => ⟨_, hσ, fun v H1 k1 l1 => by
      obtain ⟨am, rfl, hm⟩ := mt_at (K := K) l1
      exact hq H1 l am k1 (mkW (k'.trans k1)) hm⟩
    dsimp only
    show tIfS _ _ _ _ _ _
    show tTest _ _ _ _
    show tOp _ _ _ _ _ _
    show tMeth _ _ _ _ _ _ _ _ _ _
    refine barred_shows_of (ws := x2W) (m := x2M) (rs := List.replicate 12 [7]) x2M_ok (by decide) ?hX2 ?ha2 fun G3 g3 => ?_
    case hX2 => exact fun Q' hq => rep_rows (n := 12) (by decide) (by decide) hq
    case ha2 => exact fun H' k' Q' hq => mkA rfl k' hq
    rw [show barredB x2M x2W (List.replicate 12 [7]) = true by decide +kernel]
    refine ⟨true, true, rfl, rfl, false, rfl, iteF ?_⟩
    dsimp only [tNext]
    show tIfS _ _ _ _ _ _
    show tB _ _ _ _
    show tMeth _ _ _ _ _ _ _ _ _ _
    refine barred_shows_of (ws := x2W) (m := x2M) (rs := List.replicate 12 [6, 7]) x2M_ok (by decide) ?hX3 ?ha3 fun G4 g4 => ?_
    case hX3 => exact fun Q' hq => rep_rows (n := 12) (by decide) (by decide) hq
    case ha3 => exact fun H' k' Q' hq => mkA rfl (g3.trans k') hq
    rw [show barredB x2M x2W (List.replicate 12 [6, 7]) = false by decide +kernel]
    refine ⟨false, rfl, iteF ?_⟩
    -- the last
    refine ⟨(by show 2 ≤ sizeLine; decide), fun p6 n6 => ?_⟩
    rw [show ([.int 6, .int 7] : List V) = [6, 7].map V.int from rfl]
    have g5 : Kx G4 (upd G4 p6 (.tup ([6, 7].map V.int))) := Kx.new n6
    have hp6 : (upd G4 p6 (.tup ([6, 7].map V.int))) p6 = some (.tup ([6, 7].map V.int)) := upd_same
    generalize upd G4 p6 (.tup ([6, 7].map V.int)) = G5 at g5 hp6 ⊢
    refine ⟨p6, rfl, ⟨_, st_of hp6⟩, fun D0 nD => ?_⟩
    refine lc_tup (K := K) (a := p6) (xs := [6, 7].map V.int) (fun i E3 => Kx G5 E3 ∧ E3 D0 = some (.lst ((([false, true] : List Bool).take i).map V.bl)))
      ⟨Kx.new nD, upd_same⟩ (fun i E3 _ h => h.1.t (st_of hp6)) ?_ ?_
    · rintro i y E3 hi ⟨k3, hD3⟩
      obtain ⟨x, hx, rfl⟩ : ∃ x, ([6, 7] : List Int)[i]? = some x ∧ V.int x = y := by
        rw [List.getElem?_map] at hi
        exact Option.map_eq_some_iff.mp hi
      have hxb : barredB x2M [] (List.replicate 12 [x]) = decide (x = 7) ∧ ([false, true] : List Bool)[i]? = some (decide (x = 7)) := by
        match i, hx with
        | 0, hx =>
          cases hx
          exact ⟨by decide +kernel, rfl⟩
        | 1, hx =>
          cases hx
          exact ⟨by decide +kernel, rfl⟩
        | i + 2, hx => exact absurd hx (by simp)
      refine ⟨rfl, ?_⟩
      refine barred_shows_of (ws := []) (m := x2M) (rs := List.replicate 12 [x]) x2M_ok (by rw [List.length_replicate]; decide) ?hX4 ?ha4 fun E4 k4 => ?_
      · intro Q' hq
        refine ⟨_, rfl, (by show 1 ≤ sizeLine; decide), fun t nt => ?_⟩
        have u1 : Kx E3 (upd E3 t (.lst [.int x])) := Kx.new nt
        have ht1 : (upd E3 t (.lst [.int x])) t = some (.lst [.int x]) := upd_same
        generalize upd E3 t (.lst [.int x]) = U1 at u1 ht1 ⊢
        refine ⟨(by show 1 ≤ sizeLine; decide), fun t2 nt2 => ?_⟩
        have u2 : Kx U1 (upd U1 t2 (.lst [.ref t])) := Kx.new nt2
        have ht2 : (upd U1 t2 (.lst [.ref t])) t2 = some (.lst [.ref t]) := upd_same
        generalize upd U1 t2 (.lst [.ref t]) = U2 at u2 ht2 ⊢
        refine ⟨t2, 12, _, rfl, rfl, ht2, by decide, by decide, (by show 1 * 12 ≤ sizeLine; decide), fun p np => ?_⟩
        rw [show (List.replicate (12 : Int).toNat [V.ref t]).flatten = (List.replicate 12 t).map V.ref from rfl]
        have u3 := Kx.new (u := .lst ((List.replicate 12 t).map V.ref)) np
        exact hq _ p _ ((u1.trans u2).trans u3) (sq_of upd_same) (RowsIn.rep (r := [x]) (sq_of ((u2.trans u3).lst ht1)) (by show 1 ≤ 1000; decide) 12)
      · intro H' k' Q' hq
        refine ⟨Nat.zero_le _, fun z nz => ?_⟩
        have u1 : Kx H' (upd H' z (.lst [])) := Kx.new nz
        have hz : (upd H' z (.lst [])) z = some (.lst []) := upd_same
        generalize upd H' z (.lst []) = U1 at u1 hz ⊢
        intro v U2 u2 l2
        obtain ⟨am, rfl, hm⟩ := mt_at (K := K) (m := x2M) l2
        exact hq U2 z am (u1.trans u2) ⟨⟨[], sq_of (u2.lst hz), .nil⟩, by decide, fun x hx => absurd hx (by simp), fun a ha => absurd ha (by simp)⟩ hm
      · rw [hxb.1]
        refine ⟨_, k4.lst hD3, by rw [List.length_map]; exact lt80 (Nat.lt_of_le_of_lt (List.length_take_le _ _) (by show i < 100000; have : i < 2 := (List.getElem?_eq_some_iff.mp hx).1; omega)), (k3.trans k4).mut nD, ?_⟩
        rw [upd_same, List.take_add_one, hxb.2, List.map_append] <;> rfl
    · rintro E3 ⟨k3, hD3⟩
      refine ⟨(by show 2 ≤ sizeLine; decide), fun z nz => ?_⟩
      have k4 := Kx.new (u := .lst [.bl false, .bl true]) nz
      refine ⟨bsD [false, true], bsD [false, true], bsD_dp (sq_of (k4.lst hD3)), bsD_dp (bs := [false, true]) (sq_of upd_same), bsD_sh _, bsD_sh _, ?_⟩
      rw [bsD_eqv, decide_eq_true rfl]
      exact q _
end
end CH
end

section
set_option Elab.async false
set_option linter.all false
set_option maxRecDepth 100000
set_option maxHeartbeats 0
namespace CH
open PySem PySem.Spec PyProof.Rows L2
open GxR (TabB TabG Tabbed)
def dd (x : Str) (st : Stmt) : He.DefD := ⟨(x, none), x, x, defArgs st, defBody st, defScope st, [], []⟩
def de (a : Str × Option Str) (x q : Str) (st : Stmt) (l : List He.Dv) : He.DefD := ⟨a, x, q, defArgs st, defBody st, defScope st, l, []⟩
def fn : List He.DefD := [dd "is_whole" (top 2), dd "is_number" (top 3), dd "is_hour" (top 4), dd "answers_that_count" (top 7), dd "answer_of" (top 8), dd "can_be" (top 9), de ("hours_of", none) "hours_of" "hours_of" (top 10) [.glo "YES"], de ("At", some "__init__") "__init__" "At.__init__" (inClass (top 13) 0) [], de ("At", some "shows") "shows" "At.shows" (inClass (top 13) 1) [], de ("Barred", some "__init__") "__init__" "Barred.__init__" (inClass (top 14) 0) [], de ("Barred", some "shows") "shows" "Barred.shows" (inClass (top 14) 1) [], dd "copied" (top 15), dd "are_numbers" (top 16), dd "are_each_once" (top 17), dd "bars" (top 18), dd "_law_number" (top 20), dd "_law_words" (top 21), dd "_law_answers" (top 22), dd "_law_meeting" (top 23), dd "_law_hours" (top 24), dd "_law_bars" (top 25), dd "_law_says" (top 26), dd "_law_barred_right" (top 27), dd "law" (top 28)]
def fa : List He.Fa := [.glo "is_whole", .glo "is_number", .glo "is_hour", .glo "answers_that_count", .glo "answer_of", .glo "can_be", .glo "hours_of", .glo "copied", .glo "are_numbers", .glo "are_each_once", .glo "bars", .glo "_law_number", .glo "_law_words", .glo "_law_answers", .glo "_law_meeting", .glo "_law_hours", .glo "_law_bars", .glo "_law_says", .glo "_law_barred_right", .glo "law", .free "abs", .free "all", .free "any", .free "bool", .free "enumerate", .free "int", .free "isinstance", .free "len", .free "list", .free "range", .free "set", .free "sorted", .free "sum", .free "tuple", .int "HOURS" 12, .glo "YES", .glo "Answer", .cls "Answer", .glo "At", .cls "At", .noat "At" "hour", .glo "Barred", .cls "Barred", .noat "Barred" "rows", .mkr "At", .meth "At" "shows", .mkr "Barred", .meth "Barred" "shows"]
def tf : List He.Defn := [("can_be", none)]
def ex (K : PySem.W.Frag) : Bool := He.tupB K "YES" [.str "yes"] && (ownB K (He.ga K "Answer") && (ownB K (He.ga K "At") && (ownB K (He.ga K "Barred") && (kitEB K "Barred" "Answer" true && (true)))))
abbrev R : PySem.W.OpenRow := PySem.W.OpenLaw.row PySem.Challenge.rw_commonhour_k04_first_by_hand
abbrev hk : PySem.W.Hook := He.hookX 6 fa fn [] tf ex
def ob (s : PySem.W.SharedT) : He.AlX := He.obsX 6 fa fn [] tf ex (HandSHeadRun.getT s)
theorem ob_eq (s : PySem.W.SharedT) : ob s = hk.obs s.abs := He.obsX_eq (HandSHeadRun.getT_eq s)
def loose : List Str := ([("HOURS" : Str), ("is_whole" : Str), ("is_number" : Str), ("is_hour" : Str), ("YES" : Str), ("answers_that_count" : Str), ("answer_of" : Str), ("can_be" : Str), ("hours_of" : Str), ("Answer" : Str), ("At" : Str), ("Barred" : Str), ("copied" : Str), ("are_numbers" : Str), ("are_each_once" : Str), ("bars" : Str), ("_law_number" : Str), ("_law_words" : Str), ("_law_answers" : Str), ("_law_meeting" : Str), ("_law_hours" : Str), ("_law_bars" : Str), ("_law_says" : Str), ("_law_barred_right" : Str)] : List Str)
theorem run (w : World) : HandSHeadRun.RunEq R (PySem.W.view R.prog [28]) hk ob 12000 loose w := by
  intro os
  kernel_rfl
end CH
end

section
set_option Elab.async false
set_option linter.all false
set_option maxRecDepth 100000
set_option maxHeartbeats 4000000
set_option exponentiation.threshold 2000000
namespace CH
open PySem PySem.Spec PyProof.Rows L2
open GxR (TabB TabG Tabbed)
theorem defT_of {K : PySem.W.Frag} {mg : Str → Option Value} {x : Str} {st : Stmt} (F : ∃ fd, FnT K x st (He.fAd K (x, none)) fd) (hm : mg x = some (.ref (He.ga K x))) : DefT K mg x st (He.codeOf K (x, none)) := by
  obtain ⟨fd, F⟩ := F
  refine ⟨_, fd, F, hm, fun oc od osl fd' lk' => ?_⟩
  obtain ⟨oc1, od1, dV, kV, doc, pm, an, cdv, ct, osl1, rfl, lk, hcd, _, _⟩ := F.ex
  obtain ⟨c', ec⟩ := He.codeIn_ref hcd
  have e2 : He.codeOf K (x, none) = c' := He.codeOf_eq lk ec
  rw [lk] at lk'
  cases lk'
  rw [e2]
  exact ec
theorem intE {mg : Str → Option Value} {x : Str} {i : Int} (h : ∃ t, mg x = some (.int i t)) : ∃ u, mg x = some u ∧ RelV (.int i) u := by
  obtain ⟨t, e⟩ := h
  exact ⟨_, e, t, rfl⟩
theorem bits_of {z : Int} (h : Builtin.Int.intBits z ≤ 1048576) : Bits z 1100000 := Bits.mono (n := 1048576) (PySem.intBits_le_iff.mp h) (by decide)
theorem facts {P : Program} {w : World} {K : PySem.W.Frag} {h : Heap} {mg : Str → Option Value} {f : Addr} (X : K.In h) (G : h.Ns mainGlobals mg) (hfa : mg ("law" : Str) = some (.ref f)) (c0 : He.SaysX fa fn [] tf ex w h K) :
    ∃ fd : FuncData, (∀ (s : Shared) (v : Value), BindsTo s fd ⟨[v], []⟩ [("_law_script", v)]) ∧ ∀ base : Heap, K.In base → base.Ns mainGlobals mg → TabB base mg (He.cT K ("can_be", none)).1 (He.cT K ("can_be", none)).2 →
      FnOk P w K mg base CX0 10 f fd ["_law_script"] (sp_law K (He.cT K ("can_be", none)).2) := by
  have c : He.SaysD fa fn K := c0.t.d
  have D_is_whole : DefT K mg "is_whole" (top 2) (He.codeOf K ("is_whole", none)) := defT_of (c.def_ 0 (d := dd "is_whole" (top 2)) rfl) (He.glo_ok X G (c.fact 0 (f := .glo "is_whole") rfl))
  have D_is_number : DefT K mg "is_number" (top 3) (He.codeOf K ("is_number", none)) := defT_of (c.def_ 1 (d := dd "is_number" (top 3)) rfl) (He.glo_ok X G (c.fact 1 (f := .glo "is_number") rfl))
  have D_is_hour : DefT K mg "is_hour" (top 4) (He.codeOf K ("is_hour", none)) := defT_of (c.def_ 2 (d := dd "is_hour" (top 4)) rfl) (He.glo_ok X G (c.fact 2 (f := .glo "is_hour") rfl))
  have D_answers_that_count : DefT K mg "answers_that_count" (top 7) (He.codeOf K ("answers_that_count", none)) := defT_of (c.def_ 3 (d := dd "answers_that_count" (top 7)) rfl) (He.glo_ok X G (c.fact 3 (f := .glo "answers_that_count") rfl))
  have D_answer_of : DefT K mg "answer_of" (top 8) (He.codeOf K ("answer_of", none)) := defT_of (c.def_ 4 (d := dd "answer_of" (top 8)) rfl) (He.glo_ok X G (c.fact 4 (f := .glo "answer_of") rfl))
  have D_can_be : DefT K mg "can_be" (top 9) (He.codeOf K ("can_be", none)) := defT_of (c.def_ 5 (d := dd "can_be" (top 9)) rfl) (He.glo_ok X G (c.fact 5 (f := .glo "can_be") rfl))
  have D_hours_of : DefQ K mg "hours_of" (top 10) (List.map (He.Dv.v K) [.glo "YES"]) (He.codeOf K ("hours_of", none)) := defQ_of (c.def_ 6 (d := de ("hours_of", none) "hours_of" "hours_of" (top 10) [.glo "YES"]) rfl) (He.glo_ok X G (c.fact 6 (f := .glo "hours_of") rfl))
  have D_At_init : MakT K mg "At" (He.ga K "At") "At.__init__" (inClass (top 13) 0) (He.codeOf K ("At", some "__init__")) := makT_of (c.def_ 7 (d := de ("At", some "__init__") "__init__" "At.__init__" (inClass (top 13) 0) []) rfl) (He.mkr_ok (c.fact 44 (f := .mkr "At") rfl)) (He.glo_ok X G (c.fact 38 (f := .glo "At") rfl))
  have D_At_shows : MetT K (He.ga K "At") "shows" "At.shows" (inClass (top 13) 1) (He.codeOf K ("At", some "shows")) := metT_of (c.def_ 8 (d := de ("At", some "shows") "shows" "At.shows" (inClass (top 13) 1) []) rfl) (He.meth_ok (c.fact 45 (f := .meth "At" "shows") rfl)) (He.cls_ok (c.fact 39 (f := .cls "At") rfl))
  have D_Barred_init : MakT K mg "Barred" (He.ga K "Barred") "Barred.__init__" (inClass (top 14) 0) (He.codeOf K ("Barred", some "__init__")) := makT_of (c.def_ 9 (d := de ("Barred", some "__init__") "__init__" "Barred.__init__" (inClass (top 14) 0) []) rfl) (He.mkr_ok (c.fact 46 (f := .mkr "Barred") rfl)) (He.glo_ok X G (c.fact 41 (f := .glo "Barred") rfl))
  have D_Barred_shows : MetT K (He.ga K "Barred") "shows" "Barred.shows" (inClass (top 14) 1) (He.codeOf K ("Barred", some "shows")) := metT_of (c.def_ 10 (d := de ("Barred", some "shows") "shows" "Barred.shows" (inClass (top 14) 1) []) rfl) (He.meth_ok (c.fact 47 (f := .meth "Barred" "shows") rfl)) (He.cls_ok (c.fact 42 (f := .cls "Barred") rfl))
  have D_copied : DefT K mg "copied" (top 15) (He.codeOf K ("copied", none)) := defT_of (c.def_ 11 (d := dd "copied" (top 15)) rfl) (He.glo_ok X G (c.fact 7 (f := .glo "copied") rfl))
  have D_are_numbers : DefT K mg "are_numbers" (top 16) (He.codeOf K ("are_numbers", none)) := defT_of (c.def_ 12 (d := dd "are_numbers" (top 16)) rfl) (He.glo_ok X G (c.fact 8 (f := .glo "are_numbers") rfl))
  have D_are_each_once : DefT K mg "are_each_once" (top 17) (He.codeOf K ("are_each_once", none)) := defT_of (c.def_ 13 (d := dd "are_each_once" (top 17)) rfl) (He.glo_ok X G (c.fact 9 (f := .glo "are_each_once") rfl))
  have D_bars : DefT K mg "bars" (top 18) (He.codeOf K ("bars", none)) := defT_of (c.def_ 14 (d := dd "bars" (top 18)) rfl) (He.glo_ok X G (c.fact 10 (f := .glo "bars") rfl))
  have D__law_number : DefT K mg "_law_number" (top 20) (He.codeOf K ("_law_number", none)) := defT_of (c.def_ 15 (d := dd "_law_number" (top 20)) rfl) (He.glo_ok X G (c.fact 11 (f := .glo "_law_number") rfl))
  have D__law_words : DefT K mg "_law_words" (top 21) (He.codeOf K ("_law_words", none)) := defT_of (c.def_ 16 (d := dd "_law_words" (top 21)) rfl) (He.glo_ok X G (c.fact 12 (f := .glo "_law_words") rfl))
  have D__law_answers : DefT K mg "_law_answers" (top 22) (He.codeOf K ("_law_answers", none)) := defT_of (c.def_ 17 (d := dd "_law_answers" (top 22)) rfl) (He.glo_ok X G (c.fact 13 (f := .glo "_law_answers") rfl))
  have D__law_meeting : DefT K mg "_law_meeting" (top 23) (He.codeOf K ("_law_meeting", none)) := defT_of (c.def_ 18 (d := dd "_law_meeting" (top 23)) rfl) (He.glo_ok X G (c.fact 14 (f := .glo "_law_meeting") rfl))
  have D__law_hours : DefT K mg "_law_hours" (top 24) (He.codeOf K ("_law_hours", none)) := defT_of (c.def_ 19 (d := dd "_law_hours" (top 24)) rfl) (He.glo_ok X G (c.fact 15 (f := .glo "_law_hours") rfl))
  have D__law_bars : DefT K mg "_law_bars" (top 25) (He.codeOf K ("_law_bars", none)) := defT_of (c.def_ 20 (d := dd "_law_bars" (top 25)) rfl) (He.glo_ok X G (c.fact 16 (f := .glo "_law_bars") rfl))
  have D__law_says : DefT K mg "_law_says" (top 26) (He.codeOf K ("_law_says", none)) := defT_of (c.def_ 21 (d := dd "_law_says" (top 26)) rfl) (He.glo_ok X G (c.fact 17 (f := .glo "_law_says") rfl))
  have D__law_barred_right : DefT K mg "_law_barred_right" (top 27) (He.codeOf K ("_law_barred_right", none)) := defT_of (c.def_ 22 (d := dd "_law_barred_right" (top 27)) rfl) (He.glo_ok X G (c.fact 18 (f := .glo "_law_barred_right") rfl))
  have D_law : DefT K mg "law" (top 28) (He.codeOf K ("law", none)) := defT_of (c.def_ 23 (d := dd "law" (top 28)) rfl) (He.glo_ok X G (c.fact 19 (f := .glo "law") rfl))
  have n_At_hour : NoAttr K (He.ga K "At") "hour" := He.noat_ok (c.fact 40 (f := .noat "At" "hour") rfl)
  have n_Barred_rows : NoAttr K (He.ga K "Barred") "rows" := He.noat_ok (c.fact 43 (f := .noat "Barred" "rows") rfl)
  obtain ⟨x0, xr⟩ := He.ba c0.more
  obtain ⟨x1, xr⟩ := He.ba xr
  obtain ⟨x2, xr⟩ := He.ba xr
  obtain ⟨x3, xr⟩ := He.ba xr
  obtain ⟨x4, xr⟩ := He.ba xr
  have T : Tx K mg (He.ga K "ANSWERS") := ⟨He.free_ok X G (c.fact 20 (f := .free "abs") rfl), He.free_ok X G (c.fact 21 (f := .free "all") rfl), He.free_ok X G (c.fact 22 (f := .free "any") rfl), He.free_ok X G (c.fact 23 (f := .free "bool") rfl), He.free_ok X G (c.fact 24 (f := .free "enumerate") rfl), He.free_ok X G (c.fact 25 (f := .free "int") rfl), He.free_ok X G (c.fact 26 (f := .free "isinstance") rfl), He.free_ok X G (c.fact 27 (f := .free "len") rfl), He.free_ok X G (c.fact 28 (f := .free "list") rfl), He.free_ok X G (c.fact 29 (f := .free "range") rfl), He.free_ok X G (c.fact 30 (f := .free "set") rfl), He.free_ok X G (c.fact 31 (f := .free "sorted") rfl), He.free_ok X G (c.fact 32 (f := .free "sum") rfl), He.free_ok X G (c.fact 33 (f := .free "tuple") rfl), intE (He.int_ok X G (c.fact 34 (f := .int "HOURS" 12) rfl)), ⟨_, He.glo_ok X G (c.fact 35 (f := .glo "YES") rfl), rfl⟩, fun H => He.tupB_ok x0 H⟩
  have e_Answer : Own K mg "Answer" (He.ga K "Answer") := own_of (He.glo_ok X G (c.fact 36 (f := .glo "Answer") rfl)) (He.cls_ok (c.fact 37 (f := .cls "Answer") rfl)) x1
  have e_At : Own K mg "At" (He.ga K "At") := own_of (He.glo_ok X G (c.fact 38 (f := .glo "At") rfl)) (He.cls_ok (c.fact 39 (f := .cls "At") rfl)) x2
  have e_Barred : Own K mg "Barred" (He.ga K "Barred") := own_of (He.glo_ok X G (c.fact 41 (f := .glo "Barred") rfl)) (He.cls_ok (c.fact 42 (f := .cls "Barred") rfl)) x3
  have i_Barred_Answer := kitEB_ok x4
  obtain ⟨f', fd, F, hm, hc⟩ := D_law.ex
  have e := hfa.symm.trans hm
  cases e
  have b := FunD.bindsA (ps := ["_law_script"]) F fun _ _ _ _ _ _ us hl => match us, hl with | [_], _ => rfl
  refine ⟨fd, fun s v => b s [v] rfl, fun base _ _ t_can_be => ?_⟩
  have k_is_whole := ok_is_whole (P := P) (w := w) (base := base) D_is_whole T
  have k_is_number := ok_is_number D_is_number k_is_whole
  have k_is_hour := ok_is_hour D_is_hour T k_is_number
  have k_answers_that_count := ok_answers_that_count (P := P) (w := w) (base := base) D_answers_that_count T
  have k_answer_of := ok_answer_of (P := P) (w := w) (K := K) (base := base) D_answer_of
  have k_can_be := ok_can_be D_can_be t_can_be T k_answer_of
  have k_hours_of2 := ok_hours_of2 D_hours_of T k_can_be
  have k_copied_int := ok_copied_int (P := P) (w := w) (base := base) D_copied T
  have k_copied_els := ok_copied_els (P := P) (w := w) (base := base) D_copied T
  have k_are_numbers := ok_are_numbers D_are_numbers T k_is_whole
  have k_are_each_once := ok_are_each_once (P := P) (w := w) (base := base) D_are_each_once T
  have k_bars := ok_bars D_bars T k_are_numbers k_are_each_once k_answer_of
  have k_At := ok_At_init D_At_init e_At n_At_hour k_copied_int
  have k_At_shows := ok_At_shows D_At_shows e_At n_At_hour T T.h_YES k_answers_that_count k_hours_of2 k_is_hour
  have k_Barred := ok_Barred_init D_Barred_init e_Barred n_Barred_rows k_copied_els
  have k_Barred_shows := ok_Barred_shows D_Barred_shows e_Barred n_Barred_rows T k_answers_that_count k_bars
  have k_law_number := ok_law_number (P := P) (w := w) (base := base) D__law_number
  have k_law_answers := ok_law_answers (P := P) (w := w) (base := base) D__law_answers
  have k_law_hours := ok_law_hours (P := P) (w := w) (base := base) D__law_hours T
  have k_law_meeting := ok_law_meeting (P := P) (w := w) (base := base) D__law_meeting T
  have k_law_words := ok_law_words D__law_words T k_law_number
  have k_law_bars := ok_law_bars (P := P) (w := w) (base := base) D__law_bars T
  have k_law_says := ok_law_says (P := P) (w := w) (base := base) D__law_says T
  have k_law_barred_right := ok_law_barred_right D__law_barred_right T e_Barred e_Answer n_Barred_rows i_Barred_Answer k_law_answers k_law_bars k_law_says k_Barred k_Barred_shows
  exact fnok_of F hc sc_law (fun vs H Q E h => by obtain ⟨a, ns, rfl, _⟩ := h; rfl) fun A outer s H vs Q E hr h => ok_law T e_At e_Barred n_At_hour n_Barred_rows k_law_number k_law_words k_law_meeting k_law_answers k_law_hours k_law_says k_law_barred_right k_At k_At_shows k_Barred k_Barred_shows hr h
end CH
end

set_option Elab.async false
set_option linter.all false
open PySem PySem.W PySem.Calls PyProof.Rows
set_option maxRecDepth 100000 in
set_option maxHeartbeats 0 in
theorem PySem.Challenge.cw_commonhour_k04_first_by_hand_holds : PySem.Challenge.rw_commonhour_k04_first_by_hand.Holds := by
  w_on; o_law
  refine HandSHeadRun.head_any (r := OpenLaw.row PySem.Challenge.rw_commonhour_k04_first_by_hand) (q := view (OpenLaw.row PySem.Challenge.rw_commonhour_k04_first_by_hand).prog [28]) (H := CH.hk) (ob := CH.ob) (M := 12000) (loose := CH.loose) (d := HandSHeadRun.topDef (OpenLaw.row PySem.Challenge.rw_commonhour_k04_first_by_hand).prog 28) (kwd := []) CH.ob_eq
    (by kernel_rfl) (fun s => by kernel_rfl) CH.run (by kernel_rfl) (by kernel_rfl) (by kernel_rfl) (by rfl) (by first | assumption | decide +kernel) (by decide +kernel) ⟨rfl, rfl, rfl, rfl, rfl, by decide +kernel⟩ ?hw ?hc
  case hw => w_witness2
  case hc =>
    refine LamX.walk_ofTsE (l := PySem.Challenge.rw_commonhour_k04_first_by_hand) (n := 63) (k := 10) (x := "_law_script") (CX := fun _ => L2.CX0) rfl (by decide) (by kernel_rfl) ⟨rfl, by decide, by decide⟩ ?F (fun _ _ _ _ _ z => z)
    intro w mg fa h Y G hmg0
    obtain ⟨K, KX, c⟩ := Y
    have hmg : mg ("law" : PySem.Str) = some (.ref fa) := by
      have e : (HandSHeadRun.topDef (OpenLaw.row PySem.Challenge.rw_commonhour_k04_first_by_hand).prog 28).name = ("law" : PySem.Str) := by kernel_rfl
      rw [← e]
      exact hmg0
    obtain ⟨fd, hb, hF⟩ := CH.facts (P := (PySem.Challenge.rw_commonhour_k04_first_by_hand).prog) (w := w) KX G hmg c
    refine ⟨K, KX, fd, CH.tf.map (He.cT K), CH.sp_law K (He.cT K ("can_be", none)).2, ?_, ?_, ?_, hb, ?_, ?_⟩
    · intro p hp
      obtain ⟨x, hx, rfl⟩ := List.mem_map.mp hp
      exact c.empty _ hx
    · intro p hp
      obtain ⟨x, hx, rfl⟩ := List.mem_map.mp hp
      exact c.out _ hx
    · intro p hp
      obtain ⟨x, hx, rfl⟩ := List.mem_map.mp hp
      exact PySem.W.codeHd_of_K KX (c.hd _ hx)
    · intro H a ns hl hbits hT hS
      exact ⟨a, ns, rfl, hS, hl, fun z hz => CH.bits_of (hbits z hz), ⟨#[], (hT _ (List.mem_map.mpr ⟨_, (.head _), rfl⟩)), True.intro⟩, fun _ => rfl⟩
    · exact fun base hB hN hT => hF base hB hN ⟨(hT _ (List.mem_map.mpr ⟨_, (.head _), rfl⟩)).code, (hT _ (List.mem_map.mpr ⟨_, (.head _), rfl⟩)).bm, (hT _ (List.mem_map.mpr ⟨_, (.head _), rfl⟩)).gP⟩
